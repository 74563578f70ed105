import PyProof.Rows.All
import Wide.All
import OpenK.AllK
import Wide.FinOn
import HandS.ForMost
import HandS.Wide
import HandS.IsInst
import HandS.TupAny
import HandS.Conv
import KE.GoesMore
import KE.GoesEnum
import HandS.ForExc
import HandS.ExcInit
import HandS.ExcField
import HandS.TryMany
import KE.KTryMore
import HandS.ExcIs
import HandS.EndOwn
import PyProof.P3In
import HandS.Zip
import HandS.Walk
import KE.GoesZip
import KE.KDictKeyed
import KE.KDictDisplayH
import KE.KDictWalk
import HandS.DictComp
import KE.SortData
import KE.KDictSum
import HandS.TupLen
import HandS.Deep
import PyProof.DictTruth
import HandS.TupMul
import PyProof.NeKinds
import PyProof.ExcBaseAll.OverflowError
import KE.KExcInit
import HandS.Star
import HandS.SlotsOwn
import KE.KOpsOwn
import OpenK.KOps
import PyProof.TwoTypes
import PyProof.MeetsIn
import PyProof.InstNe
import OpenK.KMeth
import HandS.OwnEq
import PyProof.EqKinds
import HandS.Defaults
import HandS.WideBits
import HandS.Style
import HandS.Property
import HandS.MakeKwOnly
import PySem.Challenge.RW_stepsound_k42_clips_repeated_and_appende
set_option Elab.async false
set_option linter.all false
set_option maxRecDepth 100000
namespace My
open PySem PySem.Spec PyProof.Rows L2

/-! ### heaps -/
theorem same_new {H : Hp} {p : Addr} {o : HO} (h : H p = none) : Same H (upd H p o) := fun b x e => by
  rw [upd_ne (ne_of_none e h)]
  exact e
theorem same_tup {K : PySem.W.Frag} {H H' : Hp} {a : Addr} {xs : List V} (e : Same H H') (h : SqT K H a xs) : SqT K H' a xs := by
  rcases h with (h | ⟨o, h⟩) | h
  · exact .inl (.inl (e _ _ h))
  · exact .inl (.inr ⟨o, e _ _ h⟩)
  · exact .inr h
/-- every tuple stands -/
def TupS (H H' : Hp) : Prop := ∀ b xs, H b = some (.tup xs) → H' b = some (.tup xs)
theorem Same.tupS {H H' : Hp} (e : Same H H') : TupS H H' := fun b xs h => e b _ h

/-! ### rules within a comprehension: the written part by its own name -/
theorem ix_tupK {X : Cx} {K : PySem.W.Frag} (h : X.K = K := by rfl) : IxR X (rIxT K) := by
  subst h
  exact ix_tup
theorem ix_listK {X : Cx} {K : PySem.W.Frag} (h : X.K = K := by rfl) : IxR X (rIxL K) := by
  subst h
  exact ix_list
def rLen (K : PySem.W.Frag) : List V → Hp → VK → Prop := fun xs H Q => ∃ p ys, xs = [.ref p] ∧ (SqL K H p ys ∨ SqT K H p ys) ∧ Q (.int ys.length) H
theorem call_lenK {X : Cx} {K : PySem.W.Frag} (h : X.K = K := by rfl) : CallR X (.builtin "len") (rLen K) := by
  subst h
  exact call_len_seq
/-! ### the drawer of a law: a dict of two lists and a number -/
def dd (c l : Addr) (k : Int) : List (Key × V) := [(.inr "cells", .ref c), (.inr "left", .ref l), (.inr "at", .int k)]
theorem nCL : ¬ ((Sum.inr ("cells" : Str) : Key) = Sum.inr ("left" : Str)) := by decide +kernel
theorem nCA : ¬ ((Sum.inr ("cells" : Str) : Key) = Sum.inr ("at" : Str)) := by decide +kernel
theorem nLC : ¬ ((Sum.inr ("left" : Str) : Key) = Sum.inr ("cells" : Str)) := by decide +kernel
theorem nLA : ¬ ((Sum.inr ("left" : Str) : Key) = Sum.inr ("at" : Str)) := by decide +kernel
theorem nAC : ¬ ((Sum.inr ("at" : Str) : Key) = Sum.inr ("cells" : Str)) := by decide +kernel
theorem nAL : ¬ ((Sum.inr ("at" : Str) : Key) = Sum.inr ("left" : Str)) := by decide +kernel
theorem dd_c (c l : Addr) (k : Int) : valV (dd c l k) (.inr "cells") = some (.ref c) := valV_pos rfl
theorem dd_l (c l : Addr) (k : Int) : valV (dd c l k) (.inr "left") = some (.ref l) := (valV_neg nCL).trans (valV_pos rfl)
theorem dd_a (c l : Addr) (k : Int) : valV (dd c l k) (.inr "at") = some (.int k) := (valV_neg nCA).trans ((valV_neg nLA).trans (valV_pos rfl))
theorem sCL : ¬ (("cells" : Str) = "left") := by decide +kernel
theorem sCA : ¬ (("cells" : Str) = "at") := by decide +kernel
theorem sLA : ¬ (("left" : Str) = "at") := by decide +kernel
theorem sAL : ¬ (("at" : Str) = "left") := by decide +kernel
theorem dd_pl (c l l' : Addr) (k : Int) : putK (dd c l k) (.inr "left") (.ref l') = dd c l' k := by
  simp [putK, dd, sCL, sAL]
theorem dd_pa (c l : Addr) (k k' : Int) : putK (dd c l k) (.inr "at") (.int k') = dd c l k' := by
  simp [putK, dd, sCA, sLA]
theorem dd_mk (c l : Addr) : mergeK [] [(Sum.inr "cells", V.ref c), (Sum.inr "left", V.ref l), (Sum.inr "at", V.int 0)] = dd c l 0 := by
  simp [mergeK, putK, dd, sCL, sCA, sLA]

/-- at m the drawer with its lists at c and l, for n draws more -/
structure Dr (H : Hp) (m c l : Addr) (n : Nat) : Prop where
  ex : ∃ (cs ls : List Int) (k : Int), H m = some (.dK (dd c l k)) ∧ H c = some (.lst (cs.map V.int)) ∧ H l = some (.lst (ls.map V.int)) ∧ c ≠ l ∧
    cs.length ≤ 63 ∧ ls.length ≤ 63 ∧ (∀ x ∈ ls, 0 ≤ x) ∧ 0 ≤ k ∧ k + (n : Int) ≤ 1000000
/-- all but the drawer's own stands; its list of what is left is the old one or new -/
structure Kp (m l : Addr) (H : Hp) (l' : Addr) (H' : Hp) : Prop where
  st : ∀ b o, H b = some o → b ≠ m → b ≠ l → H' b = some o
  nw : l' = l ∨ H l' = none
  dm : ∀ b, H' b = none → H b = none
theorem Kp.refl (m l : Addr) (H : Hp) : Kp m l H l H := ⟨fun _ _ h _ _ => h, .inl rfl, fun _ h => h⟩
theorem Kp.off {m l l' : Addr} {H H' : Hp} (k : Kp m l H l' H') {b : Addr} {o : HO} (h : H b = some o) (n : b ≠ l) : b ≠ l' := by
  rcases k.nw with e | e
  · rw [e]; exact n
  · exact ne_of_none h e
theorem Kp.trans {m l l' l'' : Addr} {H H' H'' : Hp} (a : Kp m l H l' H') (b : Kp m l' H' l'' H'') : Kp m l H l'' H'' := by
  refine ⟨fun q o h n1 n2 => b.st q o (a.st q o h n1 n2) n1 (a.off h n2), ?_, fun q e => a.dm q (b.dm q e)⟩
  rcases b.nw with e | e
  · rw [e]; exact a.nw
  · exact .inr (a.dm _ e)
/-- a new object -/
theorem Kp.new {m l : Addr} {H : Hp} {p : Addr} {o : HO} (h : H p = none) : Kp m l H l (upd H p o) := by
  refine ⟨fun b u e _ _ => same_new h b u e, .inl rfl, fun b e => ?_⟩
  unfold upd at e
  split at e
  · cases e
  · exact e
theorem Dr.new {H : Hp} {m c l n : Nat} {p : Addr} {o : HO} (d : Dr H m c l n) (h : H p = none) : Dr (upd H p o) m c l n := by
  obtain ⟨cs, ls, k, h1, h2, h3, r⟩ := d.ex
  exact ⟨cs, ls, k, same_new h _ _ h1, same_new h _ _ h2, same_new h _ _ h3, r⟩
/-- a change of another object than the drawer's -/
theorem Dr.set {H : Hp} {m c l n : Nat} {p : Addr} {o : HO} (d : Dr H m c l n) (n1 : p ≠ m) (n2 : p ≠ c) (n3 : p ≠ l) : Dr (upd H p o) m c l n := by
  obtain ⟨cs, ls, k, h1, h2, h3, r⟩ := d.ex
  exact ⟨cs, ls, k, (upd_ne n1.symm).trans h1, (upd_ne n2.symm).trans h2, (upd_ne n3.symm).trans h3, r⟩
theorem Dr.less {H : Hp} {m c l n k : Nat} (d : Dr H m c l n) (h : k ≤ n) : Dr H m c l k := by
  obtain ⟨cs, ls, z, h1, h2, h3, h4, h5, h6, h7, h8, h9⟩ := d.ex
  exact ⟨cs, ls, z, h1, h2, h3, h4, h5, h6, h7, h8, by omega⟩
theorem Dr.same {H H' : Hp} {m c l n : Nat} (d : Dr H m c l n) (s : Same H H') : Dr H' m c l n := by
  obtain ⟨cs, ls, k, h1, h2, h3, r⟩ := d.ex
  exact ⟨cs, ls, k, s _ _ h1, s _ _ h2, s _ _ h3, r⟩
theorem Kp.same {m l : Addr} {H H' : Hp} (s : Same H H') : Kp m l H l H' := ⟨fun b o h _ _ => s b o h, .inl rfl, fun _ h => s.free h⟩
/-- tuples stand -/
theorem Kp.tup {m c l l' n : Addr} {H H' : Hp} (k : Kp m l H l' H') (d : Dr H m c l n) : TupS H H' := fun b xs h => by
  obtain ⟨cs, ls, z, h1, h2, h3, r⟩ := d.ex
  exact k.st b _ h (ne_of h h1 nofun) (ne_of h h3 nofun)
end My

/-! Defs that write out data (repr): their promise is asked only where nothing is being written out around them. -/
namespace My
open PySem PySem.Spec PyProof.Rows L2
/-- as the layer's promise of a def, for calls around which no guard stands -/
structure FnG (P : Program) (w : World) (K : PySem.W.Frag) (mg : Str → Option Value) (base : Heap) (k : Nat) (f : Addr) (fd : FuncData)
    (ps : List Str) (sp : Sp) : Prop where
  len : ∀ vs H Q E, sp vs H Q E → vs.length = ps.length
  go : ∀ (A : Around) (outer : List Env) (s : Shared) (H : Hp) (args : Args) (us : List Value) (vs : List V) (Q : VK) (E : XK),
    A.guards = some [] → Room k A → Env0 P w K mg base A outer s H → BindsTo s fd args (ps.zip us) → Vals vs us → sp vs H Q E →
    codeAny (model P w) A (.call (.ref f) args) (CR CX0 outer P w H s Q E) s
section
variable {P : Program} {w : World} {K : PySem.W.Frag} {mg : Str → Option Value} {base : Heap}
theorem FnG.of {k : Nat} {f : Addr} {fd : FuncData} {ps : List Str} {sp : Sp} (F : FnOk P w K mg base CX0 k f fd ps sp) : FnG P w K mg base k f fd ps sp :=
  ⟨F.len, fun A o s H args us vs Q E _ hr => F.run A o s H args us vs Q E hr⟩
theorem okG {x qual : Str} {st : Stmt} {f : Addr} {fd : FuncData} {N ps : List Str} {k : Nat} {sp : Sp} (F : Fun K x qual st f fd)
    (S : FnScope N ps (defScope st)) (len : ∀ vs H Q E, sp vs H Q E → vs.length = ps.length)
    (body : ∀ (cdv : Value) (A : Around) (outer : List Env) (s : Shared) (H : Hp) (vs : List V) (Q : VK) (E : XK), A.guards = some [] →
      Room k (A.deeper (envOfC qual (defScope st) s.heap.objs.size f cdv)) → sp vs H Q E →
      ∃ t, PSs (cxOf CX0 P w K mg base N qual (defScope st) f cdv A outer s H E).nox (defBody st) t ∧
        t { nx := fun _ H' => Q .non H', rt := Q } (start N vs) H) :
    FnG P w K mg base (k + 1) f fd ps sp := by
  obtain ⟨oc, od, kV, doc, pm, an, cdv, ct, osl, rfl, lk, hcd⟩ := F.ex
  refine ⟨len, fun A outer s H args us vs Q E hg room env0 binds rel want => ?_⟩
  have inK : K.In s.heap := env0.mod.kin.keeps fun b o e => (env0.bs b o e).1
  have noLim : s.heap.NoLimit := env0.mod.nolimit.keeps fun b o e => (env0.bs b o e).1
  have kinds : ∀ y ∈ ps.zip us, (defScope st).names.lookup y.1 = some .local ∨
      ((defScope st).names.lookup y.1 = some .cell ∧ ((cellsFrom (s.heap.objs.size + 1) (defScope st).names []).lookup y.1).isSome = true) := by
    rintro ⟨n, v⟩ hy
    rcases S.par n (List.of_mem_zip hy).1 with q | q
    · exact Or.inl q
    · exact Or.inr ⟨q, PySem.W.cellsFrom_some _ _ _ (Or.inl q)⟩
  refine codeAny_call_function room.depth (inK _ _ lk) rfl S.co S.gen rfl (PySem.W.codeRec_of inK hcd)
    (binds _ _ _ _ ?_)
  refine wpAny_newFunctionEnv_cells S.kind kinds
    fun env he s1 x => ?_
  subst he
  refine ⟨noLim.keeps x.toInCall.keep,
    codeAny_func ?_⟩
  obtain ⟨t, ht, run⟩ := body cdv A outer s H vs Q E hg (room.deeper _) want
  have start0 : Inv (cxOf CX0 P w K mg base N qual (defScope st) f cdv A outer s H E) [] (start N vs) H s1 :=
    inv_start S room.hd env0 (len _ _ _ _ want) rel x
  refine wpAny_mono (ht.nox.run [] s1 (start N vs) H _ start0 run)
    (fun flow s' hs => ?_) fun e s' hs => hs
  have fin : ∀ {σ' : L2.St} {H' : Hp} {v : V} {u : Value}, Inv (cxOf CX0 P w K mg base N qual (defScope st) f cdv A outer s H E) [] σ' H' s' →
      RelV v u → Q v H' → CE outer P w H s Q u s' :=
    fun {_ H' v _} J rv q => ⟨v, H', J.os, J.bare, J.base, J.hok, rv, q⟩
  cases flow with
  | ret u =>
    obtain ⟨v, σ', H', J, rv, q⟩ := hs
    exact fin J rv q
  | next =>
    obtain ⟨σ', H', J, q⟩ := hs
    exact fin (v := V.non) (u := Value.none) J rfl q
  | brk => obtain ⟨_, _, _, q⟩ := hs; exact q.elim
  | cont => obtain ⟨_, _, _, q⟩ := hs; exact q.elim
end
section
variable {X : Cx}
theorem goG {k : Nat} {f : Addr} {fd : FuncData} {ps : List Str} {sp : Sp} {ds : List Value} {dvs : List V} {E : XK} {pins : List (Addr × Obj)} {σ : L2.St} {H : Hp} {s : Shared} {Q : VK} {us : List Value} {vs : List V}
    (F : FnG X.prog X.w X.K X.mg X.base k f fd ps sp) (hg : X.A.guards = some []) (hr : Room k X.A) (hb : Binds X.K fd ps ds) (hd : Vals dvs ds) (hx : Passes CX0 X E)
    (I : Inv X pins σ H s) (r : Vals vs us) (h : sp (vs ++ dvs) H Q E) :
    wpAny (model X.prog X.w) X.A (call (.ref f) us) (EP X pins σ Q) X.xe s := by
  have rr : Vals (vs ++ dvs) (us ++ ds) := r.append hd
  have len : (us ++ ds).length = ps.length := rr.length ▸ F.len _ _ _ _ h
  refine wpAny_call (codeAny_mono (F.go X.A X.stack s H ⟨us, []⟩ (us ++ ds) (vs ++ dvs) Q E hg hr I.env0 (hb s us I.kIn len) rr h) ?_)
  intro res s' hq
  match res, hq with
  | .error e, hq => exact hx pins σ H s e s' I hq
  | .ok (.ret u), hq => exact I.after hq
/-- f(e, ..), f writing out data -/
theorem pe_callG {k : Nat} {f : Addr} {fd : FuncData} {ps : List Str} {sp : Sp} {ds : List Value} {dvs : List V} {E : XK} {x : Str} {e : Expr} {es : List Expr} {t : TA} {p pos : Pos}
    (F : FnG X.prog X.w X.K X.mg X.base k f fd ps sp) (hgd : X.A.guards = some []) (hr : Room k X.A) (hg : Gl X x) (hm : X.mg x = some (.ref f)) (hk : PySem.W.keepIn X.K (.ref f) = true)
    (hb : Binds X.K fd ps ds) (hd : Vals dvs ds) (hx : Passes CX0 X E) (ha : PA X (e :: es) t) (hdb : (x == ("__debug__" : Str)) = false := by decide)
    (he : starEach (e :: es) X.env = (false, eval e X.env) :: starEach es X.env := by rfl)
    (hpl : (backTo pos (starEach es X.env)).any (·.1) = false := by rfl) :
    PE X (.Call (.Name x p) (e :: es) [] pos) (tCall sp dvs E t) := by
  refine ⟨fun pins s σ H Q I h => wpAny_Call_Name_kw (ld_glob I hg hm ?_ hdb)⟩
  refine PySem.W.callWith_K (h₀ := X.base) I.ok.mod.kin hk
    (thn (ha.run pos pins s σ H _ I h) fun us s1 ⟨vs, H1, I1, r, q⟩ => ⟨I1.kIn, ?_⟩) he hpl
  exact goG F hgd hr hb hd hx I1 r q

/-! ### repr -/
def rRepr (K : PySem.W.Frag) : List V → Hp → VK → Prop := fun xs H Q => ∃ (v : V) (d : PyData), xs = [v] ∧ Dp K H v d ∧ d.showable = true ∧ d.hasDict = false ∧
  d.depth ≤ 60 ∧ d.shown.length ≤ sizeLine ∧ Q (.str d.shown) H
theorem call_repr (hg : X.A.guards = some []) (hu : X.A.units + 64 < cLine) : CallR X (.builtin "repr") (rRepr X.K) := by
  intro pins s σ H xs us Q I r h
  obtain ⟨v, d, rfl, hd, hs, hn, hdp, hz, q⟩ := h
  obtain ⟨u, rfl, ru⟩ := vals1 r
  cases hd with
  | non =>
    cases ru
    exact P.repr_of_none ⟨.str _, H, I.tok _, ⟨_, rfl⟩, q⟩
  | bl b =>
    cases ru
    exact P.repr_of_bool ⟨.str _, H, I.tok _, ⟨_, rfl⟩, q⟩
  | int i =>
    obtain ⟨t, rfl⟩ := ru
    exact P.repr_of_int (of_decide_eq_true hs) ⟨.str _, H, I.tok _, ⟨_, rfl⟩, q⟩
  | str x =>
    obtain ⟨t, rfl⟩ := ru
    exact P.repr_of_str ⟨.str _, H, I.tok _, ⟨_, rfl⟩, q⟩ hz
  | @lst a xs ds h1 h2 =>
    cases ru
    obtain ⟨as, rd⟩ := Dp.reads I (.list ds) (.ref a) (.ref a) (.lst h1 h2) rfl
    refine repr_of_reads' rd hs (fun z => by rw [hn] at z; cases z) hg (by omega) (fun _ _ e => e) (fun h' u tk hk => ?_) hz
    exact ⟨.str _, H, I.kept hk, ⟨_, rfl⟩, q⟩
  | @tup a xs ds h1 h2 =>
    cases ru
    obtain ⟨as, rd⟩ := Dp.reads I (.tuple ds) (.ref a) (.ref a) (.tup h1 h2) rfl
    refine repr_of_reads' rd hs (fun z => by rw [hn] at z; cases z) hg (by omega) (fun _ _ e => e) (fun h' u tk hk => ?_) hz
    exact ⟨.str _, H, I.kept hk, ⟨_, rfl⟩, q⟩
end
end My

/-! The end of a law whose promise is asked where no guard stands. -/
namespace My
open PySem PySem.Spec PyProof.Rows L2
theorem law_callG {P : Program} {w : World} {K : PySem.W.Frag} {mg mb : Str → Option Value} {k : Nat} {fa a : Addr} {fd : FuncData} {x : Str} {sp : Sp} {s₁ : Shared} {vs : List Value} {ns : List Int}
    (inK : K.In s₁.heap) (glob : s₁.heap.Ns mainGlobals mg) (blt : s₁.heap.Ns builtinsNs mb) (boot : ∀ x : Str, x ≠ "__name__" → mb x = bootBuiltins x) (nolim : s₁.heap.NoLimit) (nogen : s₁.gens = #[])
    (hobj : s₁.heap.get? a = some { cls := .type "list", data := .seq vs.toArray }) (hints : IntsAre vs ns) (hlen : ns.length ≤ sizeLine) (room : Room k callerA)
    (F : ∀ base : Heap, K.In base → base.Ns mainGlobals mg → FnG P w K mg base k fa fd [x] sp) (binds : ∀ (s : Shared) (u : Value), BindsTo s fd ⟨[u], []⟩ [(x, u)])
    (want : ∀ H : Hp, Only H → SqL K H a (ns.map V.int) → sp [.ref a] H (fun v _ => v = .bl true) fun _ _ _ => False) :
    codeAny (model P w) callerA (.call (.ref fa) ⟨[.ref a], []⟩) (fun r s' => r = .ok (.ret (.bool true)) ∧ OldK s₁.heap s'.heap ∧ s'.os = s₁.os ∧ AllBare s'.gens) s₁ := by
  have relv := vals_ints hints
  have core : ∀ H : Hp, Only H → SqL K H a (ns.map V.int) → HOk P w H s₁.heap → (∀ b, H b ≠ none → b = a) → (H a ≠ none → K.lookup a = none) →
      codeAny (model P w) callerA (.call (.ref fa) ⟨[.ref a], []⟩) (fun r s' => r = .ok (.ret (.bool true)) ∧ OldK s₁.heap s'.heap ∧ s'.os = s₁.os ∧ AllBare s'.gens) s₁ := by
    intro H only seq ok one notK
    have up : ∀ {b : Addr} {o : Obj}, s₁.heap.get? b = some o → H b = none → (hidT s₁.heap H).get? b = some o := fun e n => hidT_get e n
    have dictFree : ∀ {b : Addr} {o : Obj} {es : Array DictEntry} {ep : Nat}, s₁.heap.get? b = some o → o.data = .dict es ep → H b = none := by
      intro b o es ep e d
      cases q : H b with
      | none => rfl
      | some u =>
        have eb : b = a := one b (fun z => by rw [q] at z; cases z)
        rw [eb, hobj] at e
        cases e
        exact Data.noConfusion (show Data.seq vs.toArray _ = Data.dict es ep from d)
    have nsUp : ∀ {b : Addr} {m : Str → Option Value}, s₁.heap.Ns b m → (hidT s₁.heap H).Ns b m :=
      fun {_ _} ⟨o, es, ep, e, d, r⟩ => ⟨o, es, ep, up e (dictFree e d), d, r⟩
    have kUp : K.In (hidT s₁.heap H) := by
      intro b o e
      refine up (inK b o e) ?_
      cases q : H b with
      | none => rfl
      | some u =>
        have eb : b = a := one b (fun z => by rw [q] at z; cases z)
        rw [eb, notK (fun z => by rw [← eb, q] at z; cases z)] at e
        cases e
    have mod : Mod K mg (hidT s₁.heap H) := ⟨kUp, nsUp glob, ⟨mb, nsUp blt, boot⟩, nolim.imp fun mc z => ⟨nsUp z.1, z.2⟩⟩
    have env0 : Env0 P w K mg (hidT s₁.heap H) callerA [] s₁ H :=
      ⟨rfl, mod, fun b o e => of_hidT e, Nat.le_of_eq (hidT_size _ _), trivial, fun b hb => absurd (show b ∈ ([] : List Addr) from hb) (by simp), ok, .of_eq nogen⟩
    have call := (F _ kUp (nsUp glob)).go callerA [] s₁ H ⟨[.ref a], []⟩ [.ref a] [.ref a] _ _ rfl room env0 (binds s₁ (.ref a)) (.cons rfl .nil) (want H only seq)
    refine codeAny_mono call fun r s' h => ?_
    match r, h with
    | .error e, h => exact (show False from h).elim
    | .ok (.ret u), h =>
      obtain ⟨v, H', os, bare, un, ok', rv, q⟩ := h
      obtain rfl : v = .bl true := q
      obtain rfl : u = Value.bool true := rv
      refine ⟨rfl, OldK.of_keep (fun b o e => ?_), os, bare⟩
      rcases only b with z | ⟨ob, xs, z⟩
      · exact un.keep b o e z (fun y => absurd (show b ∈ ([] : List Addr) from y) (by simp)) (by simp)
      · obtain ⟨e1, _⟩ := ok b _ z
        obtain ⟨e2, _⟩ := ok' b _ (un.frzs b ob _ z)
        rw [e] at e1
        cases e1
        exact e2
  cases hk : K.lookup a with
  | some o =>
    have e := inK a o hk
    rw [hobj] at e
    cases e
    have stands : SqL K (fun _ => none) a (ns.map V.int) := .inr ⟨_, vs.toArray, _, hk, rfl, rfl, rfl, by rw [List.size_toArray, hints.length]; exact hlen, by simpa using relv⟩
    exact core (fun _ => none) (fun _ => .inl rfl) stands (fun b u z => nomatch (show (none : Option HO) = some u from z)) (fun b z => absurd rfl z) fun z => absurd rfl z
  | none =>
    let o : Obj := { cls := .type "list", data := .seq vs.toArray }
    have atA : (fun b => if b = a then some (HO.frz o (.lst (ns.map V.int))) else none) a = some (.frz o (.lst (ns.map V.int))) := if_pos rfl
    refine core (fun b => if b = a then some (.frz o (.lst (ns.map V.int))) else none) (fun b => ?_) (.inl (.inr ⟨o, atA⟩)) (fun b u z => ?_) (fun b z => ?_) fun _ => hk
    · by_cases hb : b = a
      · exact .inr ⟨_, _, if_pos hb⟩
      · exact .inl (if_neg hb)
    · by_cases hb : b = a
      · have y := (if_pos hb).symm.trans z
        cases y
        rw [hb]
        exact ⟨hobj, by rw [List.length_map]; exact hlen, vs, _, relv, hobj⟩
      · exact nomatch (if_neg hb).symm.trans z
    · by_cases hb : b = a
      · exact hb
      · exact absurd (if_neg hb) z
theorem walk_ofG {l : PySem.W.OpenLaw} {n k : Nat} {q : Program} {loose : List Str} {XP : (Str → Option Value) → Heap → Prop} {YP : World → Heap → Prop} {d : DefRec}
    {K : Params → PySem.W.Frag} {sp : PySem.W.Frag → Sp} {x : Str}
    (hn : l.most = some n) (hn2 : n ≤ sizeLine) (hdf : d.params.defaults = []) (room : Room k callerA)
    (hY : ∀ (w : World) (h : Heap), YP w h → (K w.params).In h)
    (F : ∀ (w : World) (mg : Str → Option Value) (fa : Addr) (h : Heap), (K w.params).In h → h.Ns mainGlobals mg → mg d.name = some (.ref fa) →
      ∃ fd : FuncData, (∀ (s : Shared) (u : Value), BindsTo s fd ⟨[u], []⟩ [(x, u)]) ∧
        ∀ base : Heap, (K w.params).In base → base.Ns mainGlobals mg → FnG l.prog w (K w.params) mg base k fa fd [x] (sp (K w.params)))
    (want : ∀ (K : PySem.W.Frag) (H : Hp) (a : Addr) (ns : List Int), ns.length ≤ n → Only H → SqL K H a (ns.map V.int) → sp K [.ref a] H (fun v _ => v = .bl true) fun _ _ _ => False) :
    PySem.W.WalkO q loose XP YP l.row.toRowW d [] (fun f vs => PySem.call f vs) := by
  refine Att.attach_call hn hdf fun w s₀ s₁ mg mb fa o pm cd doc a vs ns G Y ho hd hcd hmg hobj hints hlen hg => ?_
  obtain ⟨fd, hb, hF⟩ := F w mg fa _ (hY w _ Y) G.T.g hmg
  exact law_callG (hY w _ Y) G.T.g G.T.b G.T.builtins G.T.nolimit hg hobj hints
    (Nat.le_trans hlen hn2) room hF hb fun H only seq => want (K w.params) H a ns hlen only seq
end My

/-! for i, x in enumerate(t), t a tuple. -/
namespace My
open PySem PySem.Spec PyProof.Rows L2
/-- what enumerate(v) makes: v's iterator and itself -/
def enumO (a : Addr) : Obj :=
  { cls := .type "enumerate",
    data := .fields #[.none, .bool false, .ref a, rawInt 0, .none, .none] }
set_option maxHeartbeats 1000000 in
theorem meets_enum1 {v : Value} {o : Obj} {G : Heap → Prop} (B : Begins v o G) :
    Meets (Builtin.«enumerate.__new__» ⟨[.type "enumerate", v], []⟩) (fun _ R s => G s.heap ∧
      R (.ok (.ret (.ref (s.heap.push o).objs.size)))
        { s with heap := (s.heap.push o).push (enumO s.heap.objs.size) }) :=
  .of_wp fun prog w A R s ⟨h1, h⟩ => by
    obtain ⟨hp, gens, drawn, tk, os⟩ := s
    have isSub := sub_enumerate
    have step : ∀ {A' : Around} {E : Value → Shared → Prop} {Q : Value → Shared → Prop}, Q (.ref hp.objs.size) ⟨hp.push o, gens, drawn, tk, os⟩ →
        wpAny (model prog w) A' (pyIter v) Q E ⟨hp, gens, drawn, tk, os⟩ :=
      fun q => B.iter prog w _ _ ⟨hp, gens, drawn, tk, os⟩ _ h1 q
    wp_walk using step
    refine wpAny_stack_any fun st => wpAny_pure ?_
    split
    · rename_i c _ _ _ _ _
      by_cases hc : (c == Value.type "enumerate") = true
      · rw [hc]
        wp_walk using step
        exact ⟨_, rfl, h⟩
      · rw [Bool.not_eq_true] at hc
        rw [hc]
        wp_walk using step
        exact ⟨_, rfl, h⟩
    · wp_walk using step
      exact ⟨_, rfl, h⟩
section
variable {prog : Program} {w : World} {A : Around} {E : Value → Shared → Prop} {s : Shared}
theorem enum_call1 {v : Value} {o : Obj} {G : Heap → Prop} {Q : Value → Shared → Prop} (B : Begins v o G) (h1 : G s.heap)
    (h : ∀ h', IsEnum h' (s.heap.objs.size + 1) s.heap.objs.size 0 .none → h'.get? s.heap.objs.size = some o →
      (∀ b u, s.heap.get? b = some u → h'.get? b = some u) → Q (.ref (s.heap.objs.size + 1)) { s with heap := h' }) :
    wpAny (model prog w) A (call (.type "enumerate") [v]) Q E s := by
  have size1 : (s.heap.push o).objs.size = s.heap.objs.size + 1 := Heap.size_push ..
  have made : IsEnum ((s.heap.push o).push (enumO s.heap.objs.size)) (s.heap.objs.size + 1) s.heap.objs.size 0 .none := by
    have z := Heap.get?_push_size (s.heap.push o) (o := enumO s.heap.objs.size) rfl
    rw [size1] at z
    exact z
  refine callType_new F.called_enumerate (by decide) (F.typeCall_enumerate_1 _) (F.newCall_enumerate_1 _)
    (fun obj => F.args_object_init_2 obj _) F.entry_enumerate_new (meets_enum1 B) ⟨h1, ?_⟩
  show _ ∧ _
  rw [size1]
  exact ⟨⟨_, made, rfl⟩, h _ made (Heap.get?_push_of_some _ (Heap.get?_push_size _ B.free)) fun b u x => Heap.get?_push_of_some _ (Heap.get?_push_of_some _ x)⟩
end
/-- the tuple at a, each item in a new pair with its number -/
def Itu (K : PySem.W.Frag) (a : Addr) : It where
  go i H := ∃ (xs : List V) (x : V), SqT K H a xs ∧ xs[i]? = some x
  yld i H v H' := ∃ T x, v = .ref T ∧ H T = none ∧ H' = upd H T (.tup [.int (i : Nat), x]) ∧ ∀ xs, SqT K H a xs → xs[i]? = some x
  stop i H := ∃ xs : List V, SqT K H a xs ∧ xs.length = i
def EnumAt (e it a : Addr) (i : Nat) (h : Heap) : Prop := (∃ old, IsEnum h e it ((i : Nat) : Int) old) ∧ h.IsTupleIter it a i ∧ e ≠ it
theorem turn_enumT {P : Program} {w : World} {K : PySem.W.Frag} {elts : List Expr} {kk : Nat} {tpos : Pos} (a e it : Addr) (hae : a ≠ e) (hai : a ≠ it) :
    Turn P w K (.Tuple elts kk tpos) (Itu K a) [e, it] e (EnumAt e it a) where
  mem := by simp
  obj := fun i h st b hb => by
    obtain ⟨⟨old, he⟩, ⟨o, ho, hc, hd⟩, _⟩ := st
    rcases List.mem_cons.mp hb with z | z
    · rw [z]; exact ⟨_, he, fun v q => nomatch q⟩
    · rw [List.mem_singleton.mp z]; exact ⟨o, ho, fun v q => by rw [hd] at q; cases q⟩
  keep := fun i h h' st k => by
    obtain ⟨⟨old, he⟩, hi, hne⟩ := st
    exact ⟨⟨old, k e (by simp) _ he⟩, hi.at fun o q => k it (by simp) o q, hne⟩
  item := by
    intro X hP hw hK hc i pins s σ H E I hf st hg
    subst hP hw hK
    obtain ⟨⟨old, he⟩, hit, hne⟩ := st
    obtain ⟨xs, x, hq, hx⟩ := hg
    obtain ⟨its, rv, p, hz⟩ := I.tuple hq
    obtain ⟨u, hu, ru⟩ := rv.get hx
    have helt : e < s.heap.objs.size := Heap.lt_size he
    have hilt : it < s.heap.objs.size := by
      obtain ⟨_, q, _⟩ := hit
      exact Heap.lt_size q
    have hlt : i < its.toArray.size := by
      rw [List.size_toArray]
      exact (List.getElem?_eq_some_iff.mp hu).1
    have hef : e ∉ [it, a] := by
      intro z
      rcases List.mem_cons.mp z with q | q
      · exact hne q
      · exact hae (List.mem_singleton.mp q).symm
    refine wpAny_pyNext_enum_itemD (Draws.tuple (A := X.A.in1) (I.ok.hd hc) it a hai its.toArray) he ⟨hit, p⟩ hlt hne hef fun y h' tk hy ho hst' hT hsz hk => ?_
    have hy' : y = u := by
      have z : its.toArray[i]? = some u := by simpa using hu
      exact Option.some.inj (hy.symm.trans z)
    subst hy'
    refine ⟨_, rfl, wpAny_letOwnedTupleGo_enum (s := { s with heap := h', toks := tk + 1 }) ho fun h'' he' sb => ?_⟩
    have hT2 : h''.get? s.heap.objs.size = some { cls := .type "tuple", data := .seq #[.int i tk, y] } :=
      (sb.2 _ (Nat.ne_of_gt helt)).trans hT
    have new : ObjOk X.prog X.w (upd H s.heap.objs.size (.tup [.int (i : Nat), x])) h'' s.heap.objs.size (.tup [.int (i : Nat), x]) :=
      ⟨(by decide : 2 ≤ sizeLine), [.int i tk, y], .cons ⟨_, rfl⟩ (.cons ru .nil), _, hT2, rfl, _, rfl⟩
    have I1 : Inv X pins σ (upd H s.heap.objs.size (.tup [.int (i : Nat), x])) { s with heap := h'', toks := tk + 1 } :=
      I.turnedNew (ch := [e, it])
        (fun b ob hb q => (sb.2 b (fun z => hb (by simp [z]))).trans (hk b ob (fun z => hb (by simp [z])) (fun z => hb (by simp [z])) q)) hf (Nat.le_refl _) new
    refine ⟨.ref s.heap.objs.size, _, I1, rfl, ⟨_, x, rfl, I.hok.fresh (Nat.le_refl _), rfl, fun ys hy => by rw [I.tuple_inj hy hq]; exact hx⟩,
      ⟨⟨y, ?_⟩, hst'.1.at fun o q => (sb.2 it (Ne.symm hne)).trans q, hne⟩, fun b hb => ?_⟩
    · rw [show ((i + 1 : Nat) : Int) = (i : Int) + 1 by omega]
      exact he'
    · have hlt : b < s.heap.objs.size := by
        rcases List.mem_cons.mp hb with z | z
        · rw [z]; exact helt
        · rw [List.mem_singleton.mp z]; exact hilt
      rw [upd_ne (Nat.ne_of_lt hlt)]
      exact (hf b hb).1
  done := by
    intro X hP hw hK hc i pins s σ H E I hf st hg
    subst hP hw hK
    obtain ⟨⟨old, he⟩, hit, hne⟩ := st
    obtain ⟨xs, hq, hx⟩ := hg
    obtain ⟨its, rv, p, hz⟩ := I.tuple hq
    obtain ⟨f0, f1, f2, f3, f4, f5⟩ := hf it (by simp)
    have hl : its.toArray.size = i := by rw [List.size_toArray, ← rv.length, hx]
    have st : its.toArray.size = i → (s.heap.IsTupleIter it a its.toArray.size ∧ s.heap.IsTuple a its.toArray) := fun z => ⟨z ▸ hit, p⟩
    refine wpAny_pyNext_enum_endD (Draws.tuple (A := X.A.in1) (I.ok.hd hc) it a hai its.toArray) he (st hl) fun h' eb => ⟨rfl, ?_⟩
    exact I.turned (t' := s.toks) (fun b o hb q => eb b o hb q) f0 f1 f3 f4 f5
  self := fun A i s Q E st h => by
    obtain ⟨⟨_, he⟩, _⟩ := st
    exact wpAny_pyIter_enum he h
def iEnumT (K : PySem.W.Frag) (ta : TA) : TI := fun σ H R => ta σ H fun vs H1 => ∃ a xs, vs = [.ref a] ∧ SqT K H1 a xs ∧ R (Itu K a) H1
theorem pi_enumT {X : Cx} {e : Expr} {ta : TA} {p pos tpos : Pos} {elts : List Expr} {kk : Nat} (hg : Gl X "enumerate") (hm : X.mg "enumerate" = none) (ha : PA X [e] ta)
    (hs : starEach [e] X.env = [(false, eval e X.env)] := by rfl) : PI X (.Tuple elts kk tpos) (.Call (.Name "enumerate" p) [e] [] pos) (iEnumT X.K ta) := by
  refine ⟨fun pins s σ H R I h => Call_ (ld_blt I hg hm boot_enumerate (PyProof.Rows.callWith_type1 ?_ hs rfl))⟩
  refine thn (ha.run pos pins s σ H _ I h) fun us s1 ⟨vs, H1, I1, r1, a, xs, ex, hq, q⟩ => ?_
  subst ex
  obtain ⟨u, rfl, ru⟩ := vals1 r1
  obtain rfl : u = Value.ref a := ru
  obtain ⟨its, rv, p', hz⟩ := I1.tuple hq
  have hlt : a < s1.heap.objs.size := (by obtain ⟨o, ho, _⟩ := p'; exact Heap.lt_size ho)
  refine enum_call1 (begins_tuple a its.toArray) p' fun h' he hit hk => wpAny_pyIter_enum he ?_
  have I2 : Inv X pins σ H1 { s1 with heap := h' } := I1.kept (t' := s1.toks) hk
  refine ⟨s1.heap.objs.size + 1, [s1.heap.objs.size + 1, s1.heap.objs.size], _, _, H1, rfl, I2,
    turn_enumT a (s1.heap.objs.size + 1) s1.heap.objs.size (Nat.ne_of_lt (Nat.lt_succ_of_lt hlt)) (Nat.ne_of_lt hlt), ⟨⟨.none, he⟩, ⟨_, hit, rfl, rfl⟩, Nat.succ_ne_self _⟩, fun b hb => ?_, q⟩
  have hle : s1.heap.objs.size ≤ b := by
    rcases List.mem_cons.mp hb with z | z
    · rw [z]; exact Nat.le_add_right _ _
    · rw [List.mem_singleton.mp z]; exact Nat.le_refl _
  exact I1.fpOk hle (I1.hok.fresh hle)
end My

/-! An own error whose __init__ stores no field: it has no dict. -/
namespace My
open PySem PySem.Spec PyProof.Rows L2
def tMk0 (C : Addr) (sp : Sp) (ta : TA) : L2.St → Hp → XK → Prop := fun σ H Q => ta σ H fun vs H1 => vs.length ≤ 1000 ∧ ∀ a, H1 a = none →
  sp (.ref a :: vs) (upd H1 a (exo a C none)) (fun v H2 => v = .non ∧ H2 a = some (exo a C none) ∧ Q (.ref C) none (del H2 a)) (fun _ _ _ => False)
section
variable {X : Cx}
theorem end_nodict {pins : List (Addr × Obj)} {σ : L2.St} {H1 H2 : Hp} {hp hp2 h2 : Heap} {g1 g2 : Array GenState} {d1 d2 : Drawn} {t1 t2 : Nat} {os1 os2 : OsState} {a C : Addr}
    (I1 : Inv X pins σ H1 ⟨hp, g1, d1, t1, os1⟩) (above : hp.objs.size ≤ a) (kept : ∀ b o, hp.get? b = some o → hp2.get? b = some o)
    (un : Un (frs X.stack) [] (upd H1 a (exo a C none)) H2 hp2 h2) (ok : HOk X.prog X.w H2 h2) (sameOs : os2 = os1) (bare : AllBare g2) (ea : H2 a = some (exo a C none)) :
    ∃ (t0 : Addr) (G : Heap), Inv X pins σ (del H2 a) ⟨G, g2, d2, t2, os2⟩ ∧ (∀ b o, G.get? b = some o → h2.get? b = some o) ∧ G.get? a = none ∧
      h2.get? a = some ({ cls := .ref C, dict := none, data := .fields #[.ref t0, .none, .none, .none, .bool false, .none] } : Obj) := by
  obtain ⟨t0, obj⟩ := exo_at ok ea
  have free : H1 a = none := I1.hok.fresh above
  obtain ⟨G, in1, in2⟩ := restrict h2 fun b => decide (b ≠ a)
  have same : ∀ b, b ≠ a → G.get? b = h2.get? b := fun b hb => in1 b (decide_eq_true hb)
  have gone : G.get? a = none := in2 a (by simp)
  have other : ∀ {b : Addr} {o : Obj}, hp.get? b = some o → b ≠ a :=
    fun {_ _} z => Nat.ne_of_lt (Nat.lt_of_lt_of_le (Heap.lt_size z) above)
  have still : ∀ {b : Addr}, b ≠ a → H1 b = none → upd H1 a (exo a C none) b = none := fun {_} hb n => (upd_ne hb).trans n
  have newU : Un (frs X.stack) [] H1 (del H2 a) hp G := {
    keep := fun b o z n hf hx => (same b (other z)).trans (un.keep b o (kept b o z) (still (other z) n) hf hx)
    slot := fun b o z n hf hx => by
      obtain ⟨sl, e⟩ := un.slot b o (kept b o z) (still (other z) n) hf hx
      exact ⟨sl, (same b (other z)).trans e⟩
    free := fun b o z n hx => (del_ne (other z)).trans (un.free b o (kept b o z) (still (other z) n) hx)
    there := fun b o z hx => by
      obtain ⟨u, e⟩ := un.there b o (kept b o z) hx
      exact ⟨u, (same b (other z)).trans e⟩
    tups := fun b xs z => (del_ne (ne_of_none z free)).trans (un.tups b xs ((upd_ne (ne_of_none z free)).trans z))
    frzs := fun b o v z => (del_ne (ne_of_none z free)).trans (un.frzs b o v ((upd_ne (ne_of_none z free)).trans z))
    tbls := fun b ps z => by
      obtain ⟨more, e⟩ := un.tbls b ps ((upd_ne (ne_of_none z free)).trans z)
      exact ⟨more, (del_ne (ne_of_none z free)).trans e⟩ }
  have newOk : HOk X.prog X.w (del H2 a) G := by
    intro b o z
    have hba : b ≠ a := fun e => by
      rw [e, del_same] at z
      cases z
    rw [del_ne hba] at z
    have notOwn : ∀ {c : Addr}, H2 c = some (.own b) → c ≠ a := fun {_} hc => at_ne ea hc exo_own
    refine (ok b o z).stay (fun c v hc y => ?_) (fun c hc => (del_ne (notOwn hc)).trans hc) (fun c xs hc => (del_ne (at_ne ea hc exo_tup)).trans hc)
    have hca : c ≠ a := by
      rcases hc with hc | hc
      · rw [hc]; exact hba
      · exact notOwn hc
    exact (same c hca).trans y
  refine ⟨t0, G, I1.call' (ch := []) sameOs newU newOk bare (fun b z => absurd z (by simp)), fun b o z => ?_, gone, obj⟩
  by_cases hba : b = a
  · rw [hba, gone] at z
    cases z
  · exact (same b hba).symm.trans z
theorem pmk0 {x : Str} {C fI : Addr} {k : Nat} {fd : FuncData} {ps : List Str} {sp : Sp} {e : Expr} {es : List Expr} {ta : TA} {p pos : Pos}
    (T : OexC X.K C) (iC : PySem.W.findIn X.K (.ref C) "__init__" = some (some (.ref fI))) (tI : PySem.W.typeIn X.K (.ref fI) = some (.type "function"))
    (F1 : FnOk X.prog X.w X.K X.mg X.base CX0 k fI fd ps sp) (hr : Room (k + 1) X.A) (hb : Binds X.K fd ps []) (hm : X.mg x = some (.ref C)) (ha : PA X (e :: es) ta) (hg : Gl X x := by rfl)
    (hdb : (x == ("__debug__" : Str)) = false := by decide) (he : starEach (e :: es) X.env = (false, eval e X.env) :: starEach es X.env := by rfl)
    (hpl : (backTo pos (starEach es X.env)).any (·.1) = false := by rfl) : PMk X (.Call (.Name x p) (e :: es) [] pos) (tMk0 C sp ta) := by
  intro pins s σ H Q I h
  obtain ⟨nm, q, N, bs, bm, sn, sub, ab, col, dd, k0, k1, k2, k3, k5, hC, hbm⟩ := T.cls
  refine wpAny_Call_Name_kw (ld_glob I hg hm ?_ hdb)
  refine PySem.W.callWith_K (h₀ := X.base) I.ok.mod.kin T.kC
    (thn (ha.run pos pins s σ H _ I h) fun us s1 ⟨vs, H1, I1, rel, few, want⟩ => ⟨I1.kIn, ?_⟩) he hpl
  show wpAny _ _ (call (.ref C) us) _ _ _
  obtain ⟨hp, g, dr, tk, os⟩ := s1
  have up : hp.objs.size ≤ hp.objs.size + 1 := Nat.le_succ _
  have goal1 := want (hp.objs.size + 1) (I1.hok.fresh up)
  have kept : ∀ b o, hp.get? b = some o → ((hp.push (PySem.W.kdv_tup us)).push (PySem.HandSPX.excO C hp.objs.size)).get? b = some o :=
    fun b o e => Heap.get?_push_of_some _ (Heap.get?_push_of_some _ e)
  have there : ((hp.push (PySem.W.kdv_tup us)).push (PySem.HandSPX.excO C hp.objs.size)).get? (hp.objs.size + 1) = some (PySem.HandSPX.excO C hp.objs.size) := by
    heap_get
  have I2 : Inv X pins σ (upd H1 (hp.objs.size + 1) (exo (hp.objs.size + 1) C none)) ⟨(hp.push (PySem.W.kdv_tup us)).push (PySem.HandSPX.excO C hp.objs.size), g, dr, tk, os⟩ :=
    I1.laid (t' := tk) (o := exo (hp.objs.size + 1) C none) kept up
      (exo_ok there)
  have rel2 : Vals (V.ref (hp.objs.size + 1) :: vs) (Value.ref (hp.objs.size + 1) :: us) := .cons rfl rel
  have len : (Value.ref (hp.objs.size + 1) :: us ++ []).length = ps.length := by
    have z := rel2.length
    rw [F1.len _ _ _ _ goal1] at z
    rw [List.append_nil]
    exact z.symm
  have small : us.length ≤ sizeLine := by
    rw [← Paired.length rel]
    exact Nat.le_trans few (by decide)
  have bind0 := hb _ (Value.ref (hp.objs.size + 1) :: us) I2.kIn len
  rw [List.append_nil] at bind0
  refine wpAny_call (PySem.HandSPX.call_own F.excBase_ValueError (fun Y => PySem.HandSPX.refsVE_contains Y bm hbm) (I1.kIn _ _ hC)
    (PySem.W.looks_findIn I1.kIn iC) (fun self => PySem.W.bind_fn I1.kIn self tI) small
    (codeAny_mono (F1.run _ X.stack _ _ ⟨Value.ref (hp.objs.size + 1) :: us, []⟩ (Value.ref (hp.objs.size + 1) :: us) _ _ (fun _ _ _ => False) (hr.make C us []) (I2.env0.make C us []) bind0 rel2 goal1) ?_))
  intro r s' hq
  match r, hq with
  | .error er, hq => exact (show False from hq).elim
  | .ok (.ret u), hq =>
    obtain ⟨v, H2, os2, bare2, un2, ok2, rv, rfl, ea, q2⟩ := hq
    obtain ⟨h2, g2, d2, t2, os'⟩ := s'
    obtain ⟨t0, G, J, inG, gone, obj⟩ := end_nodict (d2 := d2) (t2 := t2) I1 up kept un2 ok2 os2 bare2 ea
    exact ⟨rv, hp.objs.size + 1, _, _, ⟨G, g2, d2, t2, os'⟩, _, .ref C, none, rfl, J, inG, gone, obj, ⟨rfl, rfl⟩, rfl, rfl, del_same, rfl, bare2, raises_own T.exC T.tyC, q2⟩
theorem del_new {H : Hp} {a : Addr} {o : HO} (h : H a = none) : del (upd H a o) a = H := by
  funext b
  unfold del upd
  by_cases e : b = a
  · rw [if_pos e, e, h]
  · rw [if_neg e, if_neg e]
end
end My

/-! try with several clauses, each with a name for the exception or without one. -/
namespace My
open PySem PySem.Spec PyProof.Rows L2
abbrev Suite := Addr → Value → Option Addr → L2.TS
/-- where the suite goes on: the name's slot is emptied -/
def endsAs (D : Ends) (i : Nat) : Ends where
  nx := fun σ H => D.nx (σ.set i none) H
  rt := D.rt
  bk := fun σ H => D.bk (σ.set i none) H
  ct := fun σ H => D.ct (σ.set i none) H
def wHs (K : PySem.W.Frag) (Wout : WX) (D : Ends) : List (Value × Option Nat × Suite) → WX
  | [] => Wout
  | (c, none, ts) :: r => fun cls d σ H => ∃ b, PySem.W.exmOne K cls c = some b ∧
    (b = true → ∀ a, H a = none → ts a cls d D σ H) ∧ (b = false → wHs K Wout D r cls d σ H)
  | (c, some i, ts) :: r => fun cls d σ H => ∃ b, PySem.W.exmOne K cls c = some b ∧
    (b = true → ∀ a, H a = none → ts a cls d (endsAs D i) (σ.set i (some (.ref a))) H) ∧ (b = false → wHs K Wout D r cls d σ H)
def SuiteOk (X : Cx) (body : List Stmt) (ts : Suite) : Prop :=
  ∀ (a : Addr) (oe : Obj) (cls : Value) (d : Option Addr) (pn : List (Addr × Obj)), Zc cls d oe → (∃ vs, oe.data = .fields vs) →
    PSs (X.suite a ((a, oe) :: pn)) body (ts a cls d)
inductive Hs (X : Cx) : List ExceptHandler → List (Value × Option Nat × Suite) → Prop
  | nil : Hs X [] []
  | bare {x : Str} {c : Value} {ts : Suite} {b₀ : Stmt} {suite : List Stmt} {np pos' : Pos} {hds : List ExceptHandler} {l : List (Value × Option Nat × Suite)}
      (hc : Names X x c) (hsu : SuiteOk X (b₀ :: suite) ts) (r : Hs X hds l) : Hs X (.ExceptHandler (some (.Name x np)) none (b₀ :: suite) pos' :: hds) ((c, none, ts) :: l)
  | as {x n : Str} {i : Nat} {c : Value} {ts : Suite} {b₀ : Stmt} {suite : List Stmt} {np pos' : Pos} {hds : List ExceptHandler} {l : List (Value × Option Nat × Suite)}
      (hi : X.N[i]? = some n) (hln : X.env.kindOf n = some .local) (hc : Names X x c) (hsu : SuiteOk X (b₀ :: suite) ts) (r : Hs X hds l) :
      Hs X (.ExceptHandler (some (.Name x np)) (some n) (b₀ :: suite) pos' :: hds) ((c, some i, ts) :: l)
section
variable {X : Cx} {body : List Stmt} {h₀ : ExceptHandler} {hds : List ExceptHandler} {l : List (Value × Option Nat × Suite)} {pos : Pos} {tb : WX → L2.TS} {Wout : WX}
theorem ps_try_hs (stk : X.stack = X.env :: X.outer) (frm : X.env.frame = some X.env.locals) (nd : X.N.Nodup) (out : Takes X Wout)
    (hb : ∀ (W : WX) (pn : List (Addr × Obj)) (xe : Value → Shared → Prop), Takes (X.tr pn xe) W → PassesOwn (model X.prog X.w) X.A X.env xe → PSs (X.tr pn xe) body (tb W))
    (clauses : Hs X (h₀ :: hds) l) : PS X (.Try body (h₀ :: hds) [] [] pos) (fun D σ H => tb (wHs X.K Wout D l) D σ H) := by
  refine ⟨fun pins s σ H D I want => ?_⟩
  have ok := I.ok
  have frames : X.A.frames = some (X.env :: X.outer) := by rw [ok.frames, stk]
  refine wpAny_Try_except ?_
  let catcher : Value → Shared → Prop := fun e s₁ => wpAny (model X.prog X.w) X.A (noteFrame e X.env) (fun _ s₂ =>
    wpAny (model X.prog X.w) X.A (setFlight e none) (fun _ s₃ => wpAny (model X.prog X.w) X.A (handleBy e X.env (h₀ :: hds)) (SP X pins D) X.xe s₃) X.xe s₂) X.xe s₁
  have inBody := hb (wHs X.K Wout D l) (X.pn ++ pins) catcher (fun u s' xx => ?caught) PassesOwn.looking
  case caught =>
    obtain ⟨a, B, sI, pins', σ', H', cls, d, rfl, J', nb, up, sky, na, os, ag, wish⟩ := xx
    have J : Inv X pins σ' H' sI := J'.ofTry ok
    have sky' : Sky B (X.env :: X.outer) a (Zc cls d) X.env.locals s'.heap := stk ▸ sky
    show wpAny (model X.prog X.w) X.A (noteFrame (.ref a) X.env) _ _ _
    refine Sky.land Zc.steady frames frm sky' fun h3 fl3 up3 => ?_
    have J3 : Inv X pins σ' H' { s' with heap := h3 } := J.landed nb fl3.1 (up.trans up3) os ag
    obtain ⟨oe3, vs3, he3, hz3, hd3⟩ := fl3.there
    have noFrame : a ∉ frs (X.env :: X.outer) := fun hm => by
      obtain ⟨_, o', e', hnf⟩ := fl3.2.2.1.mem hm
      rw [he3] at e'
      cases e'
      exact hnf _ hd3
    have nL : a ≠ X.env.locals := fun z => noFrame (List.mem_filterMap.mpr ⟨X.env, List.mem_cons_self, by rw [frm, z]⟩)
    have nF : a ∉ X.fs := fun hm => by
      obtain ⟨e, he, q⟩ := List.mem_filterMap.mp hm
      exact noFrame (List.mem_filterMap.mpr ⟨e, List.mem_cons_of_mem _ he, q⟩)
    have S3 := J3.suite he3 hd3 na nL nF
    have typ : PySem.W.Looks (model X.prog X.w) h3 (typeOf (.ref a)) cls := fun A Q E s k q =>
      wpAny_typeOf_ref (k _ _ he3) (by rw [hz3.1]; exact q)
    have named : ∀ {x : Str} {c : Value} {np : Pos}, Names X x c → ∀ {Q : Value → Shared → Prop} {E : Value → Shared → Prop}, Q c { s' with heap := h3 } →
        wpAny (model X.prog X.w) (X.A.mark (some (.ref a))) (eval (.Name x np) X.env) Q E { s' with heap := h3 } := by
      intro x c np hc Q E q
      obtain ⟨hg, hdbg, hm | ⟨hm, hv, hnn⟩⟩ := hc
      · exact ld_glob (X := X.suite a ((a, oe3) :: (X.pn ++ pins))) S3 hg hm q
          hdbg
      · exact ld_blt (X := X.suite a ((a, oe3) :: (X.pn ++ pins))) S3 hg hm hv q
          hnn hdbg
    have go : ∀ {hds' : List ExceptHandler} {l' : List (Value × Option Nat × Suite)}, Hs X hds' l' → wHs X.K Wout D l' cls d σ' H' →
        wpAny (model X.prog X.w) X.A (handleBy (.ref a) X.env hds') (SP X pins D) X.xe { s' with heap := h3 } := by
      intro hds' l' hk
      induction hk with
      | nil =>
        intro wish
        refine wpAny_handleBy_nil ?_
        obtain ⟨k1, k2, k3, oe, vs, T, oT, ts', he, hz, hd, h1, hr⟩ := id fl3
        unfold PySem.passOn
        refine wpAny_bind (wpAny_field he hd h1 ?_)
        rw [if_neg (show ¬ ((Value.ref T == Value.none) = true) from by simp)]
        have away : wpAny (model X.prog X.w) X.A (setFlight (.ref a) X.env.frame) (fun _ s4 => wpAny (model X.prog X.w) X.A (throw (.ref a) : Sem Flow) (SP X pins D) X.xe s4) X.xe
            { s' with heap := h3 } := by
          rw [frm]
          refine HandSPX.setFlight_upZ fl3 fun h4 hh4 up4 => wpAny_throw (out _ _ ?_)
          exact ⟨a, B, sI, pins, σ', H', cls, d, rfl, J, nb, (up.trans up3).trans up4,
            .inr (.inr (by rw [stk]; exact hh4)), na, os, ag, wish⟩
        first
          | exact wpAny_bind (wpAny_pure (wpAny_bind away))
          | exact wpAny_bind away
      | @bare x c ts b₀ suite np pos' hds2 l2 hc hsu r ih =>
        intro wish
        obtain ⟨b, hb1, yes, no⟩ := wish
        refine wpAny_handleBy_cons (codeAny_handlers_test ?_) (fun q => by cases q)
        refine named hc ((PySem.W.exm_one (M := model X.prog X.w) J3.kIn typ hb1).here ?_)
        cases b with
        | true =>
          refine codeAny_handlers_suite (HandSPX.lands_againZ fl3 fun h4 fl4 up4 => ?_)
          have J4 : Inv X pins σ' H' { s' with heap := h4 } := J.landed nb fl4.1
            ((up.trans up3).trans up4) os ag
          obtain ⟨oe4, vs4, he4, hz4, hd4⟩ := fl4.there
          have S4 := J4.suite he4 hd4 na nL nF
          refine wpAny_mono ((hsu a oe4 cls d (X.pn ++ pins) hz4 ⟨_, hd4⟩).run [] _ _ H' _ S4 (yes rfl a na)) (fun f s6 hsp => ?_)
            (fun _ _ z => False.elim z)
          cases f with
          | next => exact hsp.imp fun _ ⟨H6, S6, q6⟩ => ⟨H6, S6.unsuite ok, q6⟩
          | brk => exact hsp.imp fun _ ⟨H6, S6, q6⟩ => ⟨H6, S6.unsuite ok, q6⟩
          | cont => exact hsp.imp fun _ ⟨H6, S6, q6⟩ => ⟨H6, S6.unsuite ok, q6⟩
          | ret u => exact hsp.imp fun _ ⟨σ6, H6, S6, r6, q6⟩ => ⟨σ6, H6, S6.unsuite ok, r6, q6⟩
        | false =>
          show wpAny _ X.A (handleBy (.ref a) X.env hds2) _ _ _
          exact ih (no rfl)
      | @as x n i c ts b₀ suite np pos' hds2 l2 hi hln hc hsu r ih =>
        intro wish
        obtain ⟨b, hb1, yes, no⟩ := wish
        refine wpAny_handleBy_cons (codeAny_handlers_test ?_) (fun q => by cases q)
        refine named hc ((PySem.W.exm_one (M := model X.prog X.w) J3.kIn typ hb1).here ?_)
        cases b with
        | true =>
          refine codeAny_handlers_suite_as (HandSPX.lands_againZ fl3 fun h4 fl4 up4 => ?_)
          have J4 : Inv X pins σ' H' { s' with heap := h4 } := J.landed nb fl4.1
            ((up.trans up3).trans up4) os ag
          obtain ⟨oe4, vs4, he4, hz4, hd4⟩ := fl4.there
          have S4 := J4.suite he4 hd4 na nL nF
          have hloc : Loc X.env.scope n := Or.inl hln
          refine store_ok (X := X.suite a ((a, oe4) :: (X.pn ++ pins))) (v := .ref a) S4 nd hi hloc rfl (fun s5 S5 => ?_)
            (Or.inr hln)
          refine wpAny_mono ((hsu a oe4 cls d (X.pn ++ pins) hz4 ⟨_, hd4⟩).run [] s5 _ H' _ S5 (yes rfl a na))
            (fun f s6 hsp => ?_) (fun _ _ z => False.elim z)
          have fin : ∀ {σ6 : L2.St} {H6 : Hp} {Q : Shared → Prop}, Inv (X.suite a ((a, oe4) :: (X.pn ++ pins))) [] σ6 H6 s6 → (∀ s7, Inv X pins (σ6.set i none) H6 s7 → Q s7) →
              wpAny (model X.prog X.w) X.A (do bindName X.env n .none; unbindBehindTheSuite X.env n pos') (fun _ s7 => Q s7) X.xe s6 :=
            fun {_ _ _} S6 hq => gone_ok (S6.unsuite ok) nd hi hln hq
          cases f with
          | next =>
            obtain ⟨σ6, H6, S6, q6⟩ := hsp
            exact fin S6 fun s7 J7 => ⟨σ6.set i none, H6, J7, q6⟩
          | brk =>
            obtain ⟨σ6, H6, S6, q6⟩ := hsp
            exact fin S6 fun s7 J7 => ⟨σ6.set i none, H6, J7, q6⟩
          | cont =>
            obtain ⟨σ6, H6, S6, q6⟩ := hsp
            exact fin S6 fun s7 J7 => ⟨σ6.set i none, H6, J7, q6⟩
          | ret u =>
            obtain ⟨v6, σ6, H6, S6, r6, q6⟩ := hsp
            exact fin S6 fun s7 J7 => ⟨v6, σ6.set i none, H6, J7, r6, q6⟩
        | false =>
          show wpAny _ X.A (handleBy (.ref a) X.env hds2) _ _ _
          exact ih (no rfl)
    exact go clauses wish
  refine wpAny_mono (inBody.run [] s σ H D (I.toTry _) want) (fun f s1 hsp => ?_) (fun e s1 he => he)
  cases f with
  | next => exact wpAny_execs_nil (hsp.imp fun _ ⟨H', J', q⟩ => ⟨H', J'.ofTry ok, q⟩)
  | brk => exact hsp.imp fun _ ⟨H', J', q⟩ => ⟨H', J'.ofTry ok, q⟩
  | cont => exact hsp.imp fun _ ⟨H', J', q⟩ => ⟨H', J'.ofTry ok, q⟩
  | ret u => exact hsp.imp fun _ ⟨σ', H', J', r, q⟩ => ⟨σ', H', J'.ofTry ok, r, q⟩
end
end My

/-! try: .. except (C1, .., Cn) as e: x = e. The exception that is caught stands as a value of its own. -/
namespace My
open PySem PySem.Spec PyProof.Rows L2
theorem flyZ_keep {B h h' : Heap} {l : List Env} {a : Addr} {Z : Obj → Prop} (f : HandSPX.FlyingZ B l a Z h) (k : ∀ b o, h.get? b = some o → h'.get? b = some o) : HandSPX.FlyingZ B l a Z h' := by
  obtain ⟨g1, g2, g3, oe, vs, T, oT, ts, he, hz, hd, h1, hnT, hTe, hT, hdT, h3⟩ := f
  exact ⟨fun b o q => k b o (g1 b o q), g2, g3.of_keeps fun b o q _ => ⟨o, k b o q, rfl⟩, oe, vs, T, oT, ts, k _ _ he, hz, hd, h1, hnT, hTe, k _ _ hT, hdT, h3⟩
section
variable {M : Model} {K : PySem.W.Frag}
/-- which of the classes are asked, one by one -/
def exmEach (K : PySem.W.Frag) (cls : Value) : List Value → List Bool → Prop
  | [], [] => True
  | c :: r, b :: q => PySem.W.exmOne K cls c = some b ∧ exmEach K cls r q
  | _, _ => False
theorem each_exc {h : Heap} {cls : Value} (X : K.In h) {T : Value → Sem (ForInStep PUnit)} {A : Around} {E : Value → Shared → Prop} {Q : PUnit → Shared → Prop} {s : Shared} (k : ∀ b o, h.get? b = some o → s.heap.get? b = some o) (q : Q PUnit.unit s) :
    ∀ {cs : List Value} {bs : List Bool}, exmEach K cls cs bs →
    wpAny M A (forIn cs PUnit.unit fun c _ => do
      let d ← isExcClass c
      if (!d) = true then T c else pure (ForInStep.yield PUnit.unit)) Q E s
  | [], [], _ => by
    simp only [List.forIn_nil]
    exact wpAny_pure q
  | c :: r, b :: bs, hc => by
    obtain ⟨e1, S1⟩ := PySem.W.exm_cls (M := M) X hc.1
    rw [List.forIn_cons]
    refine wpAny_bind (wpAny_bind ((e1.keeps k).here ?_))
    rw [show (!true) = false from rfl, if_neg Bool.false_ne_true]
    refine wpAny_pure ?_
    exact each_exc X k q hc.2
  | [], _ :: _, hc => hc.elim
  | _ :: _, [], hc => hc.elim
theorem each_sub {h : Heap} {cls : Value} (X : K.In h) {A : Around} {E : Value → Shared → Prop} {Q : Option Bool × Unit → Shared → Prop} {s : Shared} (k : ∀ b o, h.get? b = some o → s.heap.get? b = some o) :
    ∀ {cs : List Value} {bs : List Bool}, exmEach K cls cs bs → Q (if bs.any id = true then some true else none, ()) s →
    wpAny M A (forIn cs ((none : Option Bool), ()) fun c _ => do
        let d ← isSubtype cls c
        if d = true then pure (ForInStep.done (some true, ())) else pure (ForInStep.yield (none, ()))) Q E s
  | [], [], _, q => by
    simp only [List.forIn_nil]
    exact wpAny_pure q
  | c :: r, b :: bs, hc, q => by
    obtain ⟨e1, S1⟩ := PySem.W.exm_cls (M := M) X hc.1
    rw [List.forIn_cons]
    refine wpAny_bind (wpAny_bind ((S1.keeps k).here ?_))
    cases b with
    | true =>
      rw [if_pos rfl]
      exact wpAny_pure (wpAny_pure q)
    | false =>
      rw [if_neg Bool.false_ne_true]
      exact wpAny_pure (each_sub X k (A := A) (E := E) (Q := Q) hc.2 q)
  | [], _ :: _, hc, _ => hc.elim
  | _ :: _, [], hc, _ => hc.elim
theorem exm_list {cls : Value} {tp e : Addr} {cs : List Value} {bs : List Bool} {h : Heap} (X : K.In h) (LT : PySem.W.Looks M h (typeOf (.ref e)) cls) (hp : h.get? tp = some { cls := .type "tuple", data := .seq cs.toArray }) (hx : exmEach K cls cs bs) :
    PySem.W.Looks M h (excMatches (.ref e) (.ref tp)) (bs.any id) := by
  intro A Q E s k q
  have LT0 : PySem.W.Looks M h (isInstance (.ref tp) (.type "tuple")) true := ((PySem.W.Looks.ld hp).andThen .now).andThen (PySem.W.Looks.of_pure isSubtype_tuple_tuple)
  unfold excMatches
  refine wpAny_bind ((LT0.keeps k).here ?_)
  rw [if_pos rfl]
  refine wpAny_bind (wpAny_seqItems (k _ _ hp) rfl ?_)
  dsimp only [Option.getD_some, Option.getD]
  refine wpAny_bind (wpAny_pure ?_)
  refine wpAny_bind (each_exc X k ?_ hx)
  refine wpAny_bind ((LT.keeps k).here ?_)
  refine wpAny_bind (each_sub X k hx ?_)
  cases he : bs.any id with
  | true =>
    rw [he] at q
    exact wpAny_pure q
  | false =>
    rw [he] at q
    exact wpAny_pure q
end
end My

namespace My
open PySem PySem.Spec PyProof.Rows L2
/-- at a: an exception that was caught, of the class cls, its dict -/
def exT (a : Addr) (cls : Value) (d : Option Addr) : HO := .ext fun h => ∃ (oe : Obj) (vs : Array Value), h.get? a = some oe ∧ Zc cls d oe ∧ oe.data = .fields vs
theorem exT_ne {a : Addr} {cls : Value} {d : Option Addr} {u : HO} (h : ∀ φ, u ≠ .ext φ) : exT a cls d ≠ u := fun z => by
  have z' : HO.ext _ = u := z
  exact h _ z'.symm
theorem exT_ok {P : Program} {w : World} {H : Hp} {h : Heap} {a : Addr} {cls : Value} {d : Option Addr} {oe : Obj} {vs : Array Value} (e : h.get? a = some oe) (z : Zc cls d oe) (f : oe.data = .fields vs) : ObjOk P w H h a (exT a cls d) :=
  ⟨⟨oe, vs, e, z, f⟩, ⟨oe, e⟩, fun h1 h2 q k => by
    obtain ⟨o, v, e1, e2, e3⟩ := q
    exact ⟨o, v, k _ e1, e2, e3⟩⟩
theorem exT_at {P : Program} {w : World} {H : Hp} {h : Heap} {a : Addr} {cls : Value} {d : Option Addr} (hok : HOk P w H h) (e : H a = some (exT a cls d)) : ∃ (oe : Obj) (vs : Array Value), h.get? a = some oe ∧ Zc cls d oe ∧ oe.data = .fields vs := by
  have x : ObjOk P w H h a (.ext fun h => ∃ (oe : Obj) (vs : Array Value), h.get? a = some oe ∧ Zc cls d oe ∧ oe.data = .fields vs) := hok a _ e
  exact x.1
/-- an object that nobody knows yet is known from now on -/
theorem inv_adopt {X : Cx} {pins : List (Addr × Obj)} {σ : L2.St} {H : Hp} {s : Shared} {a : Addr} {u : HO} (I : Inv X pins σ H s) (hn : H a = none) (h0 : X.s_0.heap.get? a = none) (hl : a ≠ X.env.locals)
    (hc : ∀ x c, X.env.cells.lookup x = some c → c ≠ a) (hp : ∀ p ∈ X.pn ++ pins, p.1 ≠ a) (ok : ObjOk X.prog X.w (upd H a u) s.heap a u) : Inv X pins σ (upd H a u) s where
  ok := I.ok
  os := I.os
  bare := I.bare
  base := {
    keep := I.base.keep
    slot := I.base.slot
    free := fun b o e n x => by
      have nb : b ≠ a := fun z => by
        rw [z, h0] at e
        cases e
      rw [upd_ne nb]
      exact I.base.free b o e n x
    there := I.base.there
    tups := fun b xs e => by
      have q := I.base.tups b xs e
      rw [upd_ne (ne_of_none q hn)]
      exact q
    frzs := fun b o v e => by
      have q := I.base.frzs b o v e
      rw [upd_ne (ne_of_none q hn)]
      exact q
    tbls := fun b ps e => by
      obtain ⟨more, q⟩ := I.base.tbls b ps e
      refine ⟨more, ?_⟩
      rw [upd_ne (ne_of_none q hn)]
      exact q }
  loc := I.loc
  cell := I.cell
  free := by
    rw [upd_ne (Ne.symm hl)]
    exact I.free
  freeC := fun x c e => by
    rw [upd_ne (hc x c e)]
    exact I.freeC x c e
  pin := fun p m => by
    obtain ⟨p1, p2, p3⟩ := I.pin p m
    refine ⟨p1, ?_, p3⟩
    rw [upd_ne (hp p m)]
    exact p2
  hok := fun b o e => by
    by_cases hb : b = a
    · rw [hb, upd_same] at e
      cases e
      rw [hb]
      exact ok
    · rw [upd_ne hb] at e
      exact (I.hok b o e).stay (fun _ _ _ q => q) (fun c q => by rw [upd_ne (ne_of_none q hn)]; exact q) fun c xs q => by rw [upd_ne (ne_of_none q hn)]; exact q
  len := I.len
/-- the names of classes, in a tuple -/
def NamesL (X : Cx) : List Expr → List Value → Prop
  | [], [] => True
  | .Name x _ :: es, c :: cs => Names X x c ∧ NamesL X es cs
  | _, _ => False
def wKeep (K : PySem.W.Frag) (Wout : WX) (D : Ends) (n i j : Nat) (cs : List Value) : WX := fun cls d σ H => ∃ bs : List Bool, exmEach K cls cs bs ∧
  (bs.any id = true → σ.length = n → ∀ a, H a = none → D.nx (((σ.set i (some (.ref a))).set j (some (.ref a))).set i none) (upd H a (exT a cls d))) ∧ (bs.any id = false → Wout cls d σ H)
section
variable {X : Cx} {body : List Stmt} {elts : List Expr} {cs : List Value} {n c : Str} {i j kk : Nat} {tpos pos' apos cp np pos : Pos} {tb : WX → L2.TS} {Wout : WX}
theorem ps_try_keep (hex : X.ex = []) (stk : X.stack = X.env :: X.outer) (frm : X.env.frame = some X.env.locals) (nd : X.N.Nodup) (hi : X.N[i]? = some n) (hln : X.env.kindOf n = some .local) (hj : X.N[j]? = some c) (hlc : X.env.kindOf c = some .local) (hij : i ≠ j)
    (hdn : (n == ("__debug__" : Str)) = false) (hcn : (n == ("__classdict__" : Str)) = false) (names : NamesL X elts cs) (hsz : cs.length ≤ sizeLine) (out : Takes X Wout)
    (hb : ∀ (W : WX) (pn : List (Addr × Obj)) (xe : Value → Shared → Prop), Takes (X.tr pn xe) W → PassesOwn (model X.prog X.w) X.A X.env xe → PSs (X.tr pn xe) body (tb W)) :
    PS X (.Try body [.ExceptHandler (some (.Tuple elts kk tpos)) (some n) [.Assign [.Name c cp] (.Name n np) apos] pos'] [] [] pos) (fun D σ H => tb (wKeep X.K Wout D X.N.length i j cs) D σ H) := by
  refine ⟨fun pins s σ H D I want => ?_⟩
  have ok := I.ok
  have frames : X.A.frames = some (X.env :: X.outer) := by rw [ok.frames, stk]
  refine wpAny_Try_except ?_
  let hds : List ExceptHandler := [.ExceptHandler (some (.Tuple elts kk tpos)) (some n) [.Assign [.Name c cp] (.Name n np) apos] pos']
  let catcher : Value → Shared → Prop := fun e s₁ => wpAny (model X.prog X.w) X.A (noteFrame e X.env) (fun _ s₂ =>
    wpAny (model X.prog X.w) X.A (setFlight e none) (fun _ s₃ => wpAny (model X.prog X.w) X.A (handleBy e X.env hds) (SP X pins D) X.xe s₃) X.xe s₂) X.xe s₁
  have inBody := hb (wKeep X.K Wout D X.N.length i j cs) (X.pn ++ pins) catcher (fun u s' xx => ?caught) PassesOwn.looking
  case caught =>
    obtain ⟨a, B, sI, pins', σ', H', cls, d, rfl, J', nb, up, sky, na, os, ag, wish⟩ := xx
    have J : Inv X pins σ' H' sI := J'.ofTry ok
    have sky' : Sky B (X.env :: X.outer) a (Zc cls d) X.env.locals s'.heap := stk ▸ sky
    show wpAny (model X.prog X.w) X.A (noteFrame (.ref a) X.env) _ _ _
    refine Sky.land Zc.steady frames frm sky' fun h3 fl3 up3 => ?_
    have J3 : Inv X pins σ' H' { s' with heap := h3 } := J.landed nb fl3.1 (up.trans up3) os ag
    obtain ⟨oe3, vs3, he3, hz3, hd3⟩ := fl3.there
    have noFrame : a ∉ frs (X.env :: X.outer) := fun hm => by
      obtain ⟨_, o', e', hnf⟩ := fl3.2.2.1.mem hm
      rw [he3] at e'
      cases e'
      exact hnf _ hd3
    have nL : a ≠ X.env.locals := fun z => noFrame (List.mem_filterMap.mpr ⟨X.env, List.mem_cons_self, by rw [frm, z]⟩)
    have nF : a ∉ X.fs := fun hm => by
      obtain ⟨e, he, q⟩ := List.mem_filterMap.mp hm
      exact noFrame (List.mem_filterMap.mpr ⟨e, List.mem_cons_of_mem _ he, q⟩)
    -- the exception is new
    have inStk : ∀ b, b ∈ frs X.stack → b = X.env.locals ∨ b ∈ X.fs := fun b hm => by
      rw [stk] at hm
      obtain ⟨e, he, q⟩ := List.mem_filterMap.mp hm
      rcases List.mem_cons.mp he with z | z
      · rw [z, frm] at q
        exact .inl (Option.some.inj q).symm
      · exact .inr (List.mem_filterMap.mpr ⟨e, z, q⟩)
    have notI : ∀ o, sI.heap.get? a = some o → False := fun o q => by
      have q2 := nb a o q (stk ▸ noFrame)
      rw [fl3.2.1] at q2
      cases q2
    have h0 : X.s_0.heap.get? a = none := by
      cases q : X.s_0.heap.get? a with
      | none => rfl
      | some o =>
        obtain ⟨o', q'⟩ := J.base.there a o q (by rw [hex]; simp)
        exact (notI o' q').elim
    have hpn : ∀ p ∈ X.pn ++ pins, p.1 ≠ a := fun p hm z => by
      obtain ⟨p1, _⟩ := J.pin p hm
      rw [z] at p1
      exact notI _ p1
    have typ : ∀ {h : Heap}, (∀ b o, h3.get? b = some o → h.get? b = some o) → PySem.W.Looks (model X.prog X.w) h (typeOf (.ref a)) cls := fun {h} kh A Q E s k q =>
      wpAny_typeOf_ref (k _ _ (kh _ _ he3)) (by rw [hz3.1]; exact q)
    obtain ⟨bs, hbs, yes, no⟩ := wish
    have S3 := J3.suite he3 hd3 na nL nF
    have named : ∀ {x : Str} {c : Value} {np : Pos}, Names X x c → ∀ {Q : Value → Shared → Prop} {E : Value → Shared → Prop}, Q c { s' with heap := h3 } →
        wpAny (model X.prog X.w) (X.A.mark (some (.ref a))) (eval (.Name x np) X.env) Q E { s' with heap := h3 } := by
      intro x c np hc Q E q
      obtain ⟨hg, hdbg, hm | ⟨hm, hv, hnn⟩⟩ := hc
      · exact ld_glob (X := X.suite a ((a, oe3) :: (X.pn ++ pins))) S3 hg hm q hdbg
      · exact ld_blt (X := X.suite a ((a, oe3) :: (X.pn ++ pins))) S3 hg hm hv q hnn hdbg
    let s3 : Shared := { s' with heap := h3 }
    let tpo : Obj := { cls := .type "tuple", data := .seq cs.toArray }
    have kpush : ∀ b o, h3.get? b = some o → (h3.push tpo).get? b = some o := fun _ _ q => Heap.get?_push_of_some _ q
    -- the tuple of the classes
    have tupled : ∀ {Q : Value → Shared → Prop} {E : Value → Shared → Prop}, Q (.ref h3.objs.size) { s' with heap := h3.push tpo } →
        wpAny (model X.prog X.w) (X.A.mark (some (.ref a))) (eval (.Tuple elts kk tpos) X.env) Q E s3 := by
      intro Q E q
      refine wpAny_Tuple ?_
      have go : ∀ (es : List Expr) (ds : List Value), NamesL X es ds → ∀ {R : List Value → Shared → Prop}, R ds s3 → wpAny (model X.prog X.w) (X.A.mark (some (.ref a))) (spliced (backTo tpos (starEach es X.env))) R E s3 := by
        intro es ds
        induction es generalizing ds with
        | nil =>
          intro hn R r
          match ds, hn with
          | [], _ => exact wpAny_items_nil r
        | cons e es ih =>
          intro hn R r
          match e, ds, hn with
          | .Name x p, c0 :: ds, hn => exact wpAny_items_cons (named hn.1 (ih ds hn.2 (R := fun vs s₂ => R (c0 :: vs) s₂) r))
      exact go elts cs names ⟨hsz, q⟩
    refine wpAny_handleBy_cons (codeAny_handlers_test ?_) (fun q => by cases q)
    refine tupled ((exm_list (M := model X.prog X.w) (h := h3.push tpo) (J3.kIn.keeps kpush) (typ kpush) (Heap.get?_push_size h3 rfl) hbs).here ?_)
    have J4 : Inv X pins σ' H' { s' with heap := h3.push tpo } := J3.kept kpush
    have fl4 := flyZ_keep fl3 kpush
    have up4 : s'.heap.UpToSlots (h3.push tpo) := fun b o e nf => by
      obtain ⟨sl, q⟩ := up3 b o e nf
      exact ⟨sl, kpush _ _ q⟩
    cases hany : bs.any id with
    | true =>
      refine codeAny_handlers_suite_as (HandSPX.lands_againZ fl4 fun h5 fl5 up5 => ?_)
      have J5 : Inv X pins σ' H' { s' with heap := h5 } := J.landed nb fl5.1 ((up.trans up4).trans up5) os ag
      obtain ⟨oe5, vs5, he5, hz5, hd5⟩ := fl5.there
      have S5 := J5.suite he5 hd5 na nL nF
      have hloc : Loc X.env.scope n := Or.inl hln
      refine store_ok (X := X.suite a ((a, oe5) :: (X.pn ++ pins))) (v := .ref a) S5 nd hi hloc rfl (fun s6 S6 => ?_) (Or.inr hln)
      have asg : PSs (X.suite a ((a, oe5) :: (X.pn ++ pins))) [.Assign [.Name c cp] (.Name n np) apos] _ := pss_one (ps_set (i := j) nd hj (Or.inl hlc) (pe_var (i := i) hi (.inl hln) hdn hcn) (hf := Or.inr hlc))
      refine wpAny_mono (asg.run [] s6 _ H' { nx := fun σ6 H6 => σ6 = (σ'.set i (some (.ref a))).set j (some (.ref a)) ∧ H6 = H', rt := fun _ _ => False } S6 ?_) (fun f s7 hsp => ?_) (fun _ _ z => False.elim z)
      · have hlen : i < σ'.length := by
          rw [J.len]
          exact (List.getElem?_eq_some_iff.mp hi).1
        exact ⟨.ref a, by rw [List.getElem?_set_self hlen], rfl, rfl⟩
      cases f with
      | next =>
        obtain ⟨σ7, H7, S7, e7, e8⟩ := hsp
        subst e7 e8
        have pin7 := (S7.pin (a, oe5) (List.mem_append_left _ List.mem_cons_self)).1
        have J7 := S7.unsuite ok
        have hcell : ∀ x c, X.env.cells.lookup x = some c → c ≠ a := fun x c e z => by
          obtain ⟨v, o, ho, hd⟩ := J7.cell x c e
          rw [z, pin7] at ho
          cases ho
          rw [hd5] at hd
          cases hd
        have J8 := inv_adopt (u := exT a cls d) J7 na h0 nL hcell hpn (exT_ok pin7 hz5 hd5)
        exact gone_ok J8 nd hi hln fun s8 J9 => ⟨_, _, J9, yes hany J.len a na⟩
      | brk =>
        obtain ⟨_, _, _, q⟩ := hsp
        exact (show False from q).elim
      | cont =>
        obtain ⟨_, _, _, q⟩ := hsp
        exact (show False from q).elim
      | ret u =>
        obtain ⟨_, _, _, _, _, q⟩ := hsp
        exact (show False from q).elim
    | false =>
      show wpAny _ X.A (handleBy (.ref a) X.env []) _ _ _
      refine wpAny_handleBy_nil ?_
      obtain ⟨k1, k2, k3, oe, vs, T, oT, ts', he, hz, hd, h1, hr⟩ := id fl4
      unfold PySem.passOn
      refine wpAny_bind (wpAny_field he hd h1 ?_)
      rw [if_neg (show ¬ ((Value.ref T == Value.none) = true) from by simp)]
      have away : wpAny (model X.prog X.w) X.A (setFlight (.ref a) X.env.frame) (fun _ s4 => wpAny (model X.prog X.w) X.A (throw (.ref a) : Sem Flow) (SP X pins D) X.xe s4) X.xe
          { s' with heap := h3.push tpo } := by
        rw [frm]
        refine HandSPX.setFlight_upZ fl4 fun h5 hh5 up5 => wpAny_throw (out _ _ ?_)
        exact ⟨a, B, sI, pins, σ', H', cls, d, rfl, J, nb, (up.trans up4).trans up5, .inr (.inr (by rw [stk]; exact hh5)), na, os, ag, no hany⟩
      first
        | exact wpAny_bind (wpAny_pure (wpAny_bind away))
        | exact wpAny_bind away
  refine wpAny_mono (inBody.run [] s σ H D (I.toTry _) want) (fun f s1 hsp => ?_) (fun e s1 he => he)
  cases f with
  | next => exact wpAny_execs_nil (hsp.imp fun _ ⟨H', J', q⟩ => ⟨H', J'.ofTry ok, q⟩)
  | brk => exact hsp.imp fun _ ⟨H', J', q⟩ => ⟨H', J'.ofTry ok, q⟩
  | cont => exact hsp.imp fun _ ⟨H', J', q⟩ => ⟨H', J'.ofTry ok, q⟩
  | ret u => exact hsp.imp fun _ ⟨σ', H', J', r, q⟩ => ⟨σ', H', J'.ofTry ok, r, q⟩
end
end My

/-! isinstance and the fields of an exception that stands as a value. -/
namespace My
open PySem PySem.Spec PyProof.Rows L2
open PySem.W in
theorem find_cls {K : Frag} {C : Addr} {od : Option Obj} {a g : Value} (hc : (clsIn K C).isSome = true) (ha : findIn K (.ref C) "__class__" = some (some a)) (hg : specialIn K a "__get__" = some (some g)) (ht : takesIn K a = some true) :
    findObj K C od "__class__" = some (.bind g a) := by
  obtain ⟨cd, hcd⟩ := Option.isSome_iff_exists.mp hc
  unfold findObj
  rw [hcd, Option.bind_some, ha, Option.bind_some]
  simp [hg, ht]
section
open PySem.W PySem.Calls
variable {prog : Program} {w : World} {A : Around} {E : Value → Shared → Prop} {s : Shared} {K : Frag} {x D : Addr} {ox : Obj} {od : Option Obj}
/-- e.__class__ of an exception with a dict of its own -/
theorem cls_attr {Q : Option Value → Shared → Prop} (C : ExcC K D) (X : K.In s.heap) (I : InstAt s.heap x ox D od) (h : Q (some (.ref D)) { s with toks := s.toks + 1 }) : wpAny (model prog w) A (getAttr? (.ref x) "__class__") Q E s := by
  have hf : findObj K D od "__class__" = some (.bind (.builtin "getset_descriptor.__get__") (.builtin "object.__class__")) := find_cls (by obtain ⟨cd, hc, _⟩ := any_some C.hd; rw [hc]; rfl) C.ha C.hn C.ht
  obtain ⟨hp, gs, dr, tk, os⟩ := s
  have l0 := I.type (M := model prog w)
  have l1 := looks_findIn (M := model prog w) X C.hg
  have l2 := looks_findIn (M := model prog w) X C.hk
  have l3 := looks_find (M := model prog w) X I hf
  have isB : Looks (model prog w) hp (isInstance (.ref x) (.type "BaseException")) true := l0.andThen (looks_subIn X C.hs)
  have notO : (Value.builtin "BaseException.__getattribute__" == Value.builtin "object.__getattribute__") = false := by decide +kernel
  unfold getAttr? getAttrBy? getAttrBy
  refine wpAny_bind (wpAny_mkText (wpAny_bind (wpAny_attempt (wpAny_holding (wpAny_bind (l0.at (wpAny_bind (l1.at ?_))))))))
  show wpAny _ _ (if (onTheHeap (Value.ref D) && Value.builtin "BaseException.__getattribute__" == Value.builtin "object.__getattribute__") = true then _ else _) _ _ _
  rw [show (onTheHeap (Value.ref D) && Value.builtin "BaseException.__getattribute__" == Value.builtin "object.__getattribute__") = false by rw [notO]; rfl, if_neg Bool.false_ne_true]
  unfold getAttrByItsOwn hookBefore
  refine wpAny_bind ?_
  rw [if_pos (show onTheHeap (Value.ref D) = true from rfl)]
  refine l2.at (wpAny_bind (wpAny_attempt (wpAny_holding ?_)))
  unfold callGetattribute
  rw [show (false && onTheHeap (Value.builtin "BaseException.__getattribute__")) = false from rfl, if_neg Bool.false_ne_true]
  unfold boundAndCalled
  rw [PySem.F.excAttr_ValueError.ga.bind (.ref x)]
  refine wpAny_bind (wpAny_pure ?_)
  show wpAny _ _ (call (.builtin "BaseException.__getattribute__") [.ref x, .str "__class__" tk]) _ _ _
  refine wpAny_call (codeAny_call_builtin PySem.F.excAttr_ValueError.ga.plain PySem.F.entry_bexc_ga ?_)
  refine @check_slot (model prog w) _ _ ⟨hp, gs, dr, tk + 1, os⟩ "BaseException.__getattribute__" "BaseException" "__getattribute__" (.ref x) [.str "__class__" tk] [] _ (by decide +kernel) (by decide +kernel) isB (PySem.F.args_bexc_ga (.ref x) (.str "__class__" tk)) ?_
  unfold Builtin.«object.__getattribute__»
  refine wpAny_bind (wpAny_of_eq (a := ((Value.ref x : Value), [Value.str "__class__" tk])) (by first | rfl | (simp only [slotArgs]; rfl)) ?_)
  refine wpAny_bind (wpAny_pure (wpAny_bind (l0.at (wpAny_bind (l3.at ?_)))))
  show wpAny _ _ (holding [Value.builtin "object.__class__"] (call (.builtin "getset_descriptor.__get__") [.builtin "object.__class__", .ref x, .ref D]) >>= ret) _ _ _
  refine wpAny_bind (wpAny_holding (wpAny_call (class_get (s := ⟨hp, gs, dr, tk + 1, os⟩) (ox := ox) (od := od) X I C.hm ?_)))
  refine wpAny_pure ?_
  show wpAny _ _ (handedOut (.ref D)) _ _ _
  rw [handedOut_of (v := .ref D) rfl]
  first
    | exact wpAny_pure (wpAny_pure h)
    | exact wpAny_pure h
    | exact wpAny_pure (wpAny_bind (wpAny_pure (wpAny_pure h)))
theorem kitx_exT (C : ExcC K D) : KitX K (.ref x) (.ref D) (fun h => ∃ (ox : Obj) (od : Option Obj), InstAt h x ox D od) where
  ty := fun _ _ _ ⟨_, _, I⟩ => I.type
  it := fun _ _ X _ => by
    obtain ⟨cd, hc, _⟩ := any_some C.hd
    unfold clsIn at hc
    split at hc
    · rename_i ho
      intro A' Q' E' s' k q
      unfold isType loadHead
      exact wpAny_bind (wpAny_loadPart (k _ _ (X _ _ ho)) (wpAny_pure q))
    · cases hc
  ne := fun h tp dd its n sl X htp => by
    obtain ⟨cd, hc, _⟩ := any_some C.hd
    refine Bool.eq_false_iff.mpr fun q => ?_
    have e : D = tp := Value.ref.inj (beq_iff_eq.mp q)
    subst e
    unfold clsIn at hc
    split at hc
    · rename_i ho
      have z := (X _ _ ho).symm.trans htp
      cases z
    · cases hc
  ca := fun X ⟨_, _, I⟩ k => cls_attr C X I k
end
/-- an exception of the class at D, its dict at dd -/
def Exc (H : Hp) (a D : Addr) (d : Option Addr) : Prop := H a = some (exT a (.ref D) d)
theorem inst_exT {X : Cx} {pins : List (Addr × Obj)} {σ : L2.St} {H : Hp} {s : Shared} {a D : Addr} {d : Option Addr} (I : Inv X pins σ H s) (h : Exc H a D d) (hd : ∀ dd, d = some dd → ∃ fs, H dd = some (.xd fs)) :
    ∃ ox od, PySem.W.InstAt s.heap a ox D od := by
  obtain ⟨oe, vs, he, hz, hv⟩ := exT_at I.hok h
  obtain ⟨z1, z2⟩ := hz
  cases d with
  | none =>
    refine ⟨oe, none, ?_⟩
    obtain ⟨oc, odd, oda, osl⟩ := oe
    dsimp only at z1 z2 hv
    subst z1 z2 hv
    exact ⟨he, rfl, rfl, trivial⟩
  | some dd =>
    obtain ⟨fs, hfs⟩ := hd dd rfl
    obtain ⟨mA, hns, hr⟩ := (I.hok dd _ hfs : ObjOk X.prog X.w H s.heap dd (.xd fs))
    obtain ⟨od, ho, _⟩ := lookIn_ns hns
    refine ⟨oe, some od, he, z1, ?_, ?_⟩
    · unfold PySem.W.notCls
      rw [hv] <;> rfl
    · rw [z2]
      exact ho
def rIsT (K : PySem.W.Frag) : List V → Hp → VK → Prop := fun xs H Q => ∃ (a D : Addr) (d : Option Addr) (c : V) (cv : Value) (b : Bool), xs = [.ref a, c] ∧ Exc H a D d ∧ (∀ dd, d = some dd → ∃ fs, H dd = some (.xd fs)) ∧ ExcC K D ∧ (∀ u, RelV c u → u = cv) ∧
  PySem.W.kitOne K (.ref D) cv = some b ∧ Q (.bl b) H
theorem call_isT {X : Cx} : CallR X (.builtin "isinstance") (rIsT X.K) := by
  intro pins s σ H xs us Q I r h
  obtain ⟨a, D, d, c, cv, b, rfl, he, hd, C, hcv, e, q⟩ := h
  cases r with
  | cons rx rr =>
    cases rr with
    | cons rt rr =>
      cases rr
      cases rx
      have ec := hcv _ rt
      subst ec
      exact PySem.W.kia_one (kitx_exT C) I.kIn (inst_exT I he hd) e (fun z => nomatch z) fun tk => ⟨.bl b, H, I.kept (t' := tk) fun _ _ z => z, rfl, q⟩
def tXfT (K : PySem.W.Frag) (f : Str) (te : TE) : TE := fun σ H Q => te σ H fun x H1 => ∃ (a D dd : Addr) (fs : List (Str × V)) (v : V), x = .ref a ∧ Exc H1 a D (some dd) ∧ H1 dd = some (.xd fs) ∧ XfC K D ∧ PySem.W.findIn K (.ref D) f = some none ∧ fs.lookup f = some v ∧ Q v H1
theorem pe_xfT {X : Cx} {e : Expr} {te : TE} {pos : Pos} {n : Str} (he : PE X e te) (hb : attributeBase e n X.env (eval e X.env) = eval e X.env := by rfl) : PE X (.Attribute e n pos) (tXfT X.K n te) := by
  refine ⟨fun pins s σ H Q I h => ?_⟩
  refine attr_of hb (thn (he.run pins s σ H _ I h) fun u s1 hh => ?_)
  obtain ⟨x, H1, I1, rx, a, D, dd, fs, v, ex, hexc, ea, T, hno, l, q⟩ := hh
  subst ex
  obtain rfl : u = Value.ref a := rx
  obtain ⟨oe, vs, ha, hz, hd⟩ := exT_at I1.hok hexc
  obtain ⟨mA, hns, hr⟩ := (I1.hok dd _ ea : ObjOk X.prog X.w H1 s1.heap dd (.xd fs))
  obtain ⟨od, ho, hl⟩ := lookIn_ns hns
  obtain ⟨u, hu, ru⟩ := RelO.some_of (v := v) (o := mA n) (by rw [← l]; exact hr n)
  have J : PySem.W.InstAt s1.heap a oe D (some od) := ⟨ha, hz.1, by unfold PySem.W.notCls; rw [hd] <;> rfl, by rw [hz.2]; exact ho⟩
  exact HandSPX.exc_get I1.kIn J T.ga T.gg T.exC (PySem.W.findObj_own T.hdC hno rfl (by rw [hl, hu])) (handed_of ru) ⟨v, H1, I1.tok _, ru, q⟩
end My

/-! The end of a law that makes lambdas, whose promise is asked where no guard stands: its code object's table of code objects grows. -/
namespace My
open PySem PySem.Spec PyProof.Rows L2 LamX
/-- nothing stands but the script and the table at P -/
def OnlyT (P : Addr) (H : Hp) : Prop := ∀ b, H b = none ∨ b = P ∨ ∃ o xs, H b = some (.frz o (.lst xs))
abbrev tabO (ps : Array Value) : Obj := { cls := .none, data := .fields ps }
theorem law_callGT {Pr : Program} {w : World} {K : PySem.W.Frag} {mg mb : Str → Option Value} {k : Nat} {fa a c P : Addr} {fd : FuncData} {x : Str} {sp : Sp} {s₁ : Shared} {vs : List Value} {ns : List Int}
    (inK : K.In s₁.heap) (glob : s₁.heap.Ns mainGlobals mg) (blt : s₁.heap.Ns builtinsNs mb) (boot : ∀ x : Str, x ≠ "__name__" → mb x = bootBuiltins x) (nolim : s₁.heap.NoLimit) (nogen : s₁.gens = #[])
    (hT : s₁.heap.get? P = some (tabO #[])) (nT : K.lookup P = none) (C : PySem.W.CodeHd s₁.heap c P)
    (hbm : ∃ (bm : Addr) (ob : Obj), mg "__builtins__" = some (.ref bm) ∧ bm ≠ builtinsNs ∧ s₁.heap.get? bm = some ob ∧ ob.cls = .type "module" ∧ ob.dict = some builtinsNs ∧ ob.data = .plain)
    (hobj : s₁.heap.get? a = some { cls := .type "list", data := .seq vs.toArray }) (hints : IntsAre vs ns) (hlen : ns.length ≤ sizeLine) (room : Room k callerA)
    (F : ∀ base : Heap, K.In base → base.Ns mainGlobals mg → TabB base mg c P → FnG Pr w K mg base k fa fd [x] sp) (binds : ∀ (s : Shared) (u : Value), BindsTo s fd ⟨[u], []⟩ [(x, u)])
    (want : ∀ H : Hp, H P = some (.tbl #[]) → SqL K H a (ns.map V.int) → sp [.ref a] H (fun v _ => v = .bl true) fun _ _ _ => False) :
    codeAny (model Pr w) callerA (.call (.ref fa) ⟨[.ref a], []⟩) (fun r s' => r = .ok (.ret (.bool true)) ∧ OldK s₁.heap s'.heap ∧ s'.os = s₁.os ∧ AllBare s'.gens) s₁ := by
  have relv := vals_ints hints
  have naP : a ≠ P := fun z => by
    rw [z, hT] at hobj
    have z' : Data.fields #[] = Data.seq vs.toArray _ := congrArg Obj.data (Option.some.inj hobj)
    cases z'
  have core : ∀ H : Hp, H P = some (.tbl #[]) → OnlyT P H → SqL K H a (ns.map V.int) → HOk Pr w H s₁.heap → (∀ b, H b ≠ none → b = a ∨ b = P) → (H a ≠ none → K.lookup a = none) →
      codeAny (model Pr w) callerA (.call (.ref fa) ⟨[.ref a], []⟩) (fun r s' => r = .ok (.ret (.bool true)) ∧ OldK s₁.heap s'.heap ∧ s'.os = s₁.os ∧ AllBare s'.gens) s₁ := by
    intro H hP only seq ok one notK
    have up : ∀ {b : Addr} {o : Obj}, s₁.heap.get? b = some o → H b = none → (hidT s₁.heap H).get? b = some o := fun e n => hidT_get e n
    -- what is neither a list nor a table is not tracked
    have out : ∀ {b : Addr} {o : Obj}, s₁.heap.get? b = some o → (∀ vs n, o.data ≠ .seq vs n) → o.data ≠ .fields #[] → H b = none := by
      intro b o e h1 h2
      cases q : H b with
      | none => rfl
      | some u =>
        rcases one b (fun z => by rw [q] at z; cases z) with z | z
        · rw [z, hobj] at e
          cases e
          exact (h1 _ _ rfl).elim
        · rw [z, hT] at e
          cases e
          exact (h2 rfl).elim
    have outD : ∀ {b : Addr} {o : Obj} {es : Array DictEntry} {ep : Nat}, s₁.heap.get? b = some o → o.data = .dict es ep → H b = none := fun {b o es ep} e d =>
      out e (fun vs n z => by rw [d] at z; cases z) (fun z => by rw [d] at z; cases z)
    have nsUp : ∀ {b : Addr} {m : Str → Option Value}, s₁.heap.Ns b m → (hidT s₁.heap H).Ns b m :=
      fun {_ _} ⟨o, es, ep, e, d, r⟩ => ⟨o, es, ep, up e (outD e d), d, r⟩
    have kUp : K.In (hidT s₁.heap H) := by
      intro b o e
      refine up (inK b o e) ?_
      cases q : H b with
      | none => rfl
      | some u =>
        rcases one b (fun z => by rw [q] at z; cases z) with z | z
        · rw [z, notK (fun y => by rw [← z, q] at y; cases y)] at e
          cases e
        · rw [z, nT] at e
          cases e
    have mod : Mod K mg (hidT s₁.heap H) := ⟨kUp, nsUp glob, ⟨mb, nsUp blt, boot⟩, nolim.imp fun mc z => ⟨nsUp z.1, z.2⟩⟩
    have tb : TabB (hidT s₁.heap H) mg c P := by
      refine ⟨?_, ?_, fun z => ?_⟩
      · obtain ⟨o, us, file, tf, flags, tg, inF, text, tt, e1, r1, r2, r3, r⟩ := C
        refine ⟨o, us, file, tf, flags, tg, inF, text, tt, up e1 (out e1 (fun vs n z => ?_) fun z => ?_), r1, r2, r3, r⟩
        · rw [r2] at z
          cases z
        · rw [r2] at z
          cases z
          simp at r3
      · obtain ⟨bm, ob, b1, b2, b3, b4, b5, b6⟩ := hbm
        have nG : bm ≠ mainGlobals := fun q => by
          obtain ⟨o, es, ep, e, hd, _⟩ := glob
          rw [q, e] at b3
          cases b3
          rw [hd] at b6
          cases b6
        have nP : bm ≠ P := fun q => by
          rw [q, hT] at b3
          cases b3
          cases b6
        exact ⟨bm, ob, b1, b2, nG, nP, up b3 (out b3 (fun vs n z => by rw [b6] at z; cases z) fun z => by rw [b6] at z; cases z), b4, b5, b6⟩
      · obtain ⟨o, es, ep, e, hd, _⟩ := glob
        rw [z, hT] at e
        cases e
        cases hd
    have env0 : Env0 Pr w K mg (hidT s₁.heap H) callerA [] s₁ H :=
      ⟨rfl, mod, fun b o e => of_hidT e, Nat.le_of_eq (hidT_size _ _), trivial, fun b hb => absurd (show b ∈ ([] : List Addr) from hb) (by simp), ok, .of_eq nogen⟩
    have call := (F _ kUp (nsUp glob) tb).go callerA [] s₁ H ⟨[.ref a], []⟩ [.ref a] [.ref a] _ _ rfl room env0 (binds s₁ (.ref a)) (.cons rfl .nil) (want H hP seq)
    refine codeAny_mono call fun r s' h => ?_
    match r, h with
    | .error e, h => exact (show False from h).elim
    | .ok (.ret u), h =>
      obtain ⟨v, H', os, bare, un, ok', rv, q⟩ := h
      obtain rfl : v = .bl true := q
      obtain rfl : u = Value.bool true := rv
      have stays : ∀ b o, b ≠ P → s₁.heap.get? b = some o → s'.heap.get? b = some o := fun b o nb e => by
        rcases only b with z | z | ⟨ob, xs, z⟩
        · exact un.keep b o e z (fun y => absurd (show b ∈ ([] : List Addr) from y) (by simp)) (by simp)
        · exact absurd z nb
        · obtain ⟨e1, _⟩ := ok b _ z
          obtain ⟨e2, _⟩ := ok' b _ (un.frzs b ob _ z)
          rw [e] at e1
          cases e1
          exact e2
      obtain ⟨more, hm⟩ : ∃ more : Array Value, s'.heap.get? P = some (tabO more) := by
        obtain ⟨more, z⟩ := un.tbls P #[] hP
        exact ⟨_, ok' P _ z⟩
      refine ⟨rfl, ⟨fun b o e => ?_, fun b o e => ?_⟩, os, bare⟩
      · by_cases hb : b = P
        · rw [hb] at e ⊢
          rw [hT] at e
          cases e
          exact .inr (.inl ⟨(C.tab hT).isCodeTable, rfl, #[], more, rfl, by rw [Array.empty_append]; exact hm⟩)
        · exact .inl (stays b o hb e)
      · by_cases hb : b = P
        · rw [hb]
          exact ⟨_, hm⟩
        · exact ⟨o, stays b o hb e⟩
  let t0 : Hp := fun b => if b = P then some (.tbl #[]) else none
  have t0P : t0 P = some (.tbl #[]) := if_pos rfl
  have t0o : ∀ {b}, b ≠ P → t0 b = none := fun h => if_neg h
  cases hk : K.lookup a with
  | some o =>
    have e := inK a o hk
    rw [hobj] at e
    cases e
    have stands : SqL K t0 a (ns.map V.int) := .inr ⟨_, vs.toArray, _, hk, rfl, rfl, rfl, by rw [List.size_toArray, hints.length]; exact hlen, by simpa using relv⟩
    refine core t0 t0P (fun b => ?_) stands (fun b u z => ?_) (fun b z => ?_) fun z => absurd (t0o naP) z
    · by_cases hb : b = P
      · exact .inr (.inl hb)
      · exact .inl (t0o hb)
    · by_cases hb : b = P
      · rw [hb, t0P] at z
        cases z
        rw [hb]
        exact hT
      · rw [t0o hb] at z
        cases z
    · by_cases hb : b = P
      · exact .inr hb
      · exact absurd (t0o hb) z
  | none =>
    let o : Obj := { cls := .type "list", data := .seq vs.toArray }
    let H1 : Hp := fun b => if b = a then some (.frz o (.lst (ns.map V.int))) else t0 b
    have atA : H1 a = some (.frz o (.lst (ns.map V.int))) := if_pos rfl
    have ofA : ∀ {b}, b ≠ a → H1 b = t0 b := fun h => if_neg h
    refine core H1 ((ofA (Ne.symm naP)).trans t0P) (fun b => ?_) (.inl (.inr ⟨o, atA⟩)) (fun b u z => ?_) (fun b z => ?_) fun _ => hk
    · by_cases hb : b = a
      · exact .inr (.inr ⟨_, _, by rw [hb]; exact atA⟩)
      · by_cases hb2 : b = P
        · exact .inr (.inl hb2)
        · exact .inl ((ofA hb).trans (t0o hb2))
    · by_cases hb : b = a
      · rw [hb, atA] at z
        cases z
        rw [hb]
        exact ⟨hobj, by rw [List.length_map]; exact hlen, vs, _, relv, hobj⟩
      · rw [ofA hb] at z
        by_cases hb2 : b = P
        · rw [hb2, t0P] at z
          cases z
          rw [hb2]
          exact hT
        · rw [t0o hb2] at z
          cases z
    · by_cases hb : b = a
      · exact .inl hb
      · by_cases hb2 : b = P
        · exact .inr hb2
        · exact absurd ((ofA hb).trans (t0o hb2)) z
theorem walk_ofGT {l : PySem.W.OpenLaw} {n k : Nat} {q : Program} {loose : List Str} {XP : (Str → Option Value) → Heap → Prop} {YP : World → Heap → Prop} {d : DefRec}
    {K : Params → PySem.W.Frag} {sp : PySem.W.Frag → Addr → Sp} {x : Str}
    (hn : l.most = some n) (hn2 : n ≤ sizeLine) (hdf : d.params.defaults = []) (room : Room k callerA) (hrec : ((recsOf q).any fun e => e.name == d.name) = true)
    (hY : ∀ (w : World) (h : Heap), YP w h → (K w.params).In h)
    (F : ∀ (w : World) (mg : Str → Option Value) (fa : Addr) (h : Heap), (K w.params).In h → h.Ns mainGlobals mg → mg d.name = some (.ref fa) → OwnTab (K w.params) fa h →
      ∃ (fd : FuncData) (c P : Addr), h.get? P = some (tabO #[]) ∧ (K w.params).lookup P = none ∧ PySem.W.CodeHd h c P ∧ (∀ (s : Shared) (u : Value), BindsTo s fd ⟨[u], []⟩ [(x, u)]) ∧
        ∀ base : Heap, (K w.params).In base → base.Ns mainGlobals mg → TabB base mg c P → FnG l.prog w (K w.params) mg base k fa fd [x] (sp (K w.params) P))
    (want : ∀ (K : PySem.W.Frag) (H : Hp) (a P : Addr) (ns : List Int), ns.length ≤ n → H P = some (.tbl #[]) → SqL K H a (ns.map V.int) → sp K P [.ref a] H (fun v _ => v = .bl true) fun _ _ _ => False) :
    PySem.W.WalkO q loose XP YP l.row.toRowW d [] (fun f vs => PySem.call f vs) := by
  refine Att.attach_callB hn hdf fun w s₀ s₁ mg mb fa o pm cd doc a vs ns G Y ho hd hcd hmg hobj hints hlen hbits hg => ?_
  have KX := hY w _ Y
  have own : OwnTab (K w.params) fa s₁.heap := fun c P o1 fd1 e dd vs1 sl k1 k2 k3 k4 k5 => by
    obtain ⟨dL, hm, hn1⟩ := List.any_eq_true.mp hrec
    have hname : dL.name = d.name := beq_iff_eq.mp hn1
    obtain ⟨a', o', fd', c', P', h1, h2, h3, h4, h5, h6⟩ := G.T.tab dL hm
    rw [hname, hmg] at h1
    cases h1
    rw [KX _ _ k1] at h2
    cases h2
    rw [k2] at h3
    cases h3
    rw [k3] at h4
    cases h4
    obtain ⟨⟨oc, vc, e1, _, e3, e4⟩, hP⟩ := h6
    rw [KX _ _ k4] at e1
    cases e1
    cases e3
    rw [k5] at e4
    cases e4
    exact hP
  obtain ⟨fd, c, P, hT, nT, C, hb, hF⟩ := F w mg fa _ KX G.T.g hmg own
  exact law_callGT KX G.T.g G.T.b G.T.builtins G.T.nolimit hg hT nT C G.T.bmain hobj hints (Nat.le_trans hlen hn2) room hF hb fun H hH hS => want (K w.params) H a P ns hlen hH hS
section
variable {P : Program} {w : World} {K : PySem.W.Frag} {mg : Str → Option Value} {base : Heap}
/-- okG, the code object known -/
theorem okGc {x qual : Str} {st : Stmt} {f c : Addr} {fd : FuncData} {N ps : List Str} {k : Nat} {sp : Sp} (F : Fun K x qual st f fd) (hc : fd.code = .ref c)
    (S : FnScope N ps (defScope st)) (len : ∀ vs H Q E, sp vs H Q E → vs.length = ps.length)
    (body : ∀ (A : Around) (outer : List Env) (s : Shared) (H : Hp) (vs : List V) (Q : VK) (E : XK), A.guards = some [] →
      Room k (A.deeper (envOfC qual (defScope st) s.heap.objs.size f (.ref c))) → sp vs H Q E →
      ∃ t, PSs (cxOf CX0 P w K mg base N qual (defScope st) f (.ref c) A outer s H E).nox (defBody st) t ∧
        t { nx := fun _ H' => Q .non H', rt := Q } (start N vs) H) :
    FnG P w K mg base (k + 1) f fd ps sp := by
  obtain ⟨oc, od, kV, doc, pm, an, cdv, ct, osl, rfl, lk, hcd⟩ := F.ex
  obtain rfl : cdv = .ref c := hc
  refine ⟨len, fun A outer s H args us vs Q E hg room env0 binds rel want => ?_⟩
  have inK : K.In s.heap := env0.mod.kin.keeps fun b o e => (env0.bs b o e).1
  have noLim : s.heap.NoLimit := env0.mod.nolimit.keeps fun b o e => (env0.bs b o e).1
  have kinds : ∀ y ∈ ps.zip us, (defScope st).names.lookup y.1 = some .local ∨
      ((defScope st).names.lookup y.1 = some .cell ∧ ((cellsFrom (s.heap.objs.size + 1) (defScope st).names []).lookup y.1).isSome = true) := by
    rintro ⟨n, v⟩ hy
    rcases S.par n (List.of_mem_zip hy).1 with q | q
    · exact Or.inl q
    · exact Or.inr ⟨q, PySem.W.cellsFrom_some _ _ _ (Or.inl q)⟩
  refine codeAny_call_function room.depth (inK _ _ lk) rfl S.co S.gen rfl (PySem.W.codeRec_of inK hcd)
    (binds _ _ _ _ ?_)
  refine wpAny_newFunctionEnv_cells S.kind kinds
    fun env he s1 x => ?_
  subst he
  refine ⟨noLim.keeps x.toInCall.keep,
    codeAny_func ?_⟩
  obtain ⟨t, ht, run⟩ := body A outer s H vs Q E hg (room.deeper _) want
  have start0 : Inv (cxOf CX0 P w K mg base N qual (defScope st) f (.ref c) A outer s H E) [] (start N vs) H s1 :=
    inv_start S room.hd env0 (len _ _ _ _ want) rel x
  refine wpAny_mono (ht.nox.run [] s1 (start N vs) H _ start0 run)
    (fun flow s' hs => ?_) fun e s' hs => hs
  have fin : ∀ {σ' : L2.St} {H' : Hp} {v : V} {u : Value}, Inv (cxOf CX0 P w K mg base N qual (defScope st) f (.ref c) A outer s H E) [] σ' H' s' →
      RelV v u → Q v H' → CE outer P w H s Q u s' :=
    fun {_ H' v _} J rv q => ⟨v, H', J.os, J.bare, J.base, J.hok, rv, q⟩
  cases flow with
  | ret u =>
    obtain ⟨v, σ', H', J, rv, q⟩ := hs
    exact fin J rv q
  | next =>
    obtain ⟨σ', H', J, q⟩ := hs
    exact fin (v := V.non) (u := Value.none) J rfl q
  | brk => obtain ⟨_, _, _, q⟩ := hs; exact q.elim
  | cont => obtain ⟨_, _, _, q⟩ := hs; exact q.elim
end
section
variable {X : Cx}
end
end My

/-! rules within a comprehension: the written part by its own name -/
namespace My
open PySem PySem.Spec PyProof.Rows L2
section
variable {X : Cx}
theorem pg_tupK {K : PySem.W.Frag} {es : List Expr} {k : Nat} {pos : Pos} {t : TGs} {n : Nat} (hc : X.calm = true) (h : PGs X es t) (hK : X.K = K := by rfl)
    (hn : (assignEach es X.env).length = n := by rfl) (hst : (assignEach es X.env).findIdx? (·.1) = none := by rfl) : PG X (.Tuple es k pos) (gTup K n t) := by
  subst hK
  exact pg_tup hc h hn hst
theorem call_reprK {K : PySem.W.Frag} (hg : X.A.guards = some []) (hu : X.A.units + 64 < cLine) (h : X.K = K := by rfl) : CallR X (.builtin "repr") (rRepr K) := by
  subst h
  exact call_repr hg hu
variable {o e : Expr} {es : List Expr} {to : TE} {t : TA} {name : Str} {apos cpos : Pos} {T id : String} {r : V → List V → Hp → VK → Prop}
theorem pe_bmK {K : PySem.W.Frag} (pa : PlainAttrs T) (slot : Slot T name id) (hty : typeOf (.builtin id) = pure (.type "method_descriptor")) (hm : MtR X id r) (ho : PE X o to) (ha : PA X (e :: es) t) (hK : X.K = K := by rfl)
    (hbase : attributeBase o name X.env (eval o X.env) = eval o X.env := by rfl)
    (hfew : ((backTo cpos (starEach (e :: es) X.env)).all (fun x => !x.1) && (backToKw cpos (keywordEach [] X.env)).all (fun x => x.1.isSome)
      && decide ((e :: es).length + ([] : List Keyword).length + (if ([] : List Keyword).isEmpty then 0 else 1) < 30)) = true := by rfl)
    (hline : (apos.endLine == cpos.line) = true := by rfl) (hs : starEach (e :: es) X.env = (false, eval e X.env) :: starEach es X.env := by rfl) (hplain : (backTo cpos (starEach es X.env)).any (·.1) = false := by rfl) :
    PE X (.Call (.Attribute o name apos) (e :: es) [] cpos) (tBM K T r to t) := by
  subst hK
  exact pe_bm pa slot hty hm ho ha hbase hfew hline hs hplain
end
end My

/-! Laws with _law_outcome(lambda: ..): what they share. -/
namespace My
open PySem PySem.Spec PyProof.Rows L2
/-- isinstance, asked of each of the classes -/
def kitEach (K : PySem.W.Frag) (cls : Value) : List Value → List Bool → Prop
  | [], [] => True
  | c :: r, b :: q => PySem.W.kitOne K cls c = some b ∧ kitEach K cls r q
  | _, _ => False
theorem kit_self {K : PySem.W.Frag} {C : Addr} : PySem.W.kitOne K (.ref C) (.ref C) = some true := by
  unfold PySem.W.kitOne
  rw [if_pos (by simp)]
theorem kit_no {K : PySem.W.Frag} {D C : Addr} (isC : PySem.W.isClsIn K C = true) (tC : PySem.W.typeIn K (.ref C) = some (.type "type")) (sD : PySem.W.subIn K (.ref D) (.ref D) = some true) (s : PySem.W.subIn K (.ref D) (.ref C) = some false) :
    PySem.W.kitOne K (.ref D) (.ref C) = some false := by
  have h : (PySem.W.clsIn K C).isSome = true := isC
  unfold PySem.W.kitOne
  rw [if_neg (fun z => by
    have e : D = C := Value.ref.inj (beq_iff_eq.mp z)
    subst e
    rw [sD] at s
    cases s)]
  show (if ((PySem.W.clsIn K C).isSome && PySem.W.typeIn K (.ref C) == some (.type "type")) = true then PySem.W.subIn K (.ref D) (.ref C) else none) = some false
  rw [if_pos (by rw [h, tC]; rfl)]
  exact s
theorem exm_of {K : PySem.W.Frag} {S C : Addr} {b : Bool} (base : PySem.W.subIn K (.ref C) (.type "BaseException") = some true) (isCls : PySem.W.isClsIn K C = true)
    (ty : PySem.W.typeIn K (.ref C) = some (.type "type")) (sub : PySem.W.subIn K (.ref S) (.ref C) = some b) : PySem.W.exmOne K (.ref S) (.ref C) = some b := by
  unfold PySem.W.exmOne
  rw [if_pos (by rw [base]; rfl)]
  show (if ((PySem.W.clsIn K C).isSome && PySem.W.typeIn K (.ref C) == some (.type "type")) = true then PySem.W.subIn K (.ref S) (.ref C) else none) = some b
  have h : (PySem.W.clsIn K C).isSome = true := isCls
  rw [if_pos (by rw [h, ty]; rfl)]
  exact sub
section
variable {X : Cx}
def rNotInDT (K : PySem.W.Frag) : R2 := fun x y H Q => ∃ d ds, Dp K H x d ∧ Dp K H y (.tuple ds) ∧ SeqAt.shaped d = true ∧ SeqAt.shaped (.tuple ds) = true ∧ Q (.bl (!ds.any fun z => PyData.eqv z d)) H
theorem op_notInDT (hu : X.A.units + 65 < cLine) : OpR X (compareOp .NotIn) (rNotInDT X.K) := by
  intro pins s σ H x y v u Q I rx ry h
  obtain ⟨d, ds, hd, he, sd, se, q⟩ := h
  obtain ⟨as, r1⟩ := Dp.reads I d x v hd rx
  obtain ⟨bs, r2⟩ := Dp.reads I (.tuple ds) y u he ry
  exact SeqAt.notIn_tuple_reads r2 r1 (SeqAt.canLay_of_shaped se) (SeqAt.canLay_of_shaped sd) (room_in_shaped sd hu) ⟨.bl _, H, I, rfl, q⟩
end
end My

/-! zip of two things, each a list or a tuple. -/
namespace My
open PySem PySem.Spec PyProof.Rows L2
/-- a list (k), or a tuple -/
def Sq (k : Bool) (K : PySem.W.Frag) (H : Hp) (a : Addr) (xs : List V) : Prop := match k with
  | true => SqL K H a xs
  | false => SqT K H a xs
def IsS (k : Bool) (h : Heap) (a : Addr) (items : Array Value) : Prop := match k with
  | true => h.IsList a items
  | false => h.IsTuple a items
def IsSI (k : Bool) (h : Heap) (it a : Addr) (i : Nat) : Prop := match k with
  | true => h.IsListIter it a i
  | false => h.IsTupleIter it a i
theorem IsSI.at {k : Bool} {h h' : Heap} {it a : Addr} {i : Nat} (x : IsSI k h it a i) (e : ∀ o, h.get? it = some o → h'.get? it = some o) : IsSI k h' it a i := by
  cases k with
  | true => exact Heap.IsListIter.at x e
  | false => exact Heap.IsTupleIter.at x e
theorem IsSI.nocell {k : Bool} {h : Heap} {it a : Addr} {i : Nat} (x : IsSI k h it a i) : ∃ o, h.get? it = some o ∧ ∀ v, o.data ≠ .cell v := by
  cases k with
  | true => obtain ⟨o, e, _, d⟩ := x; exact ⟨o, e, fun v q => by rw [d] at q; cases q⟩
  | false => obtain ⟨o, e, _, d⟩ := x; exact ⟨o, e, fun v q => by rw [d] at q; cases q⟩
theorem IsS.lt {k : Bool} {h : Heap} {a : Addr} {items : Array Value} (x : IsS k h a items) : a < h.objs.size := by
  cases k with
  | true => obtain ⟨o, e, _⟩ := x; exact Heap.lt_size e
  | false => obtain ⟨o, e, _⟩ := x; exact Heap.lt_size e
theorem drawsS {prog : Program} {w : World} {A : Around} (hh : A.handled = none) (k : Bool) (it a : Addr) (hne : a ≠ it) (items : Array Value) :
    Draws prog w A it [it, a] items.size (fun i v => items[i]? = some v) (fun i h => IsSI k h it a i ∧ IsS k h a items) := by
  cases k with
  | true => exact Draws.list hh it a hne items
  | false => exact Draws.tuple hh it a hne items
def itO (k : Bool) (a : Addr) : Obj := match k with
  | true => { cls := .type "list_iterator", data := .fields #[.ref a, .int 0 0] }
  | false => { cls := .type "tuple_iterator", data := .fields #[.ref a, .int 0 0] }
theorem beginsS (k : Bool) (a : Addr) (items : Array Value) : Begins (.ref a) (itO k a) fun h => IsS k h a items := by
  cases k with
  | true => exact begins_list a items
  | false => exact begins_tuple a items
theorem isSI_new {k : Bool} {h : Heap} {it a : Addr} (e : h.get? it = some (itO k a)) : IsSI k h it a 0 := by
  cases k with
  | true => exact ⟨_, e, rfl, rfl⟩
  | false => exact ⟨_, e, rfl, rfl⟩
theorem inv_sq {X : Cx} {pins : List (Addr × Obj)} {σ : L2.St} {H : Hp} {s : Shared} {k : Bool} {a : Addr} {xs : List V} (I : Inv X pins σ H s) (h : Sq k X.K H a xs) :
    ∃ its : List Value, Vals xs its ∧ IsS k s.heap a its.toArray := by
  cases k with
  | true => obtain ⟨its, r, p, _⟩ := I.list h; exact ⟨its, r, p.isList⟩
  | false => obtain ⟨its, r, p, _⟩ := I.tuple h; exact ⟨its, r, p⟩
theorem inv_sq_inj {X : Cx} {pins : List (Addr × Obj)} {σ : L2.St} {H : Hp} {s : Shared} {k : Bool} {a : Addr} {xs ys : List V} (I : Inv X pins σ H s) (h : Sq k X.K H a xs) (h' : Sq k X.K H a ys) : xs = ys := by
  cases k with
  | true => exact I.list_inj h h'
  | false => exact I.tuple_inj h h'
/-- both as they stand at each turn, the items in new pairs -/
def Itz2 (K : PySem.W.Frag) (k1 k2 : Bool) (a b : Addr) : It where
  go i H := ∃ (xs ys : List V) (x y : V), Sq k1 K H a xs ∧ Sq k2 K H b ys ∧ xs[i]? = some x ∧ ys[i]? = some y
  yld i H v H' := ∃ T x y, v = .ref T ∧ H T = none ∧ H' = upd H T (.tup [x, y]) ∧ (∀ xs, Sq k1 K H a xs → xs[i]? = some x) ∧ ∀ ys, Sq k2 K H b ys → ys[i]? = some y
  stop i H := ∃ xs ys : List V, Sq k1 K H a xs ∧ Sq k2 K H b ys ∧ i = min xs.length ys.length
theorem mem5 {c n : Nat} (h : c ∈ [n + 4, n + 2, n + 3, n, n + 1]) : n ≤ c ∧ c ≤ n + 4 := by
  have e : c = n + 4 ∨ c = n + 2 ∨ c = n + 3 ∨ c = n ∨ c = n + 1 := by simpa using h
  omega
theorem nm2 {x p q : Nat} (h1 : x ≠ p) (h2 : x ≠ q) : x ∉ [p, q] := fun h => by
  rcases List.mem_cons.mp h with e | e
  · exact h1 e
  · exact h2 (List.mem_singleton.mp e)
theorem sepS {n a b : Nat} (ha : a < n) (hb : b < n) : ZipSep2 (n + 4) (n + 2) (n + 3) n (n + 1) [n, a] [n + 1, b] :=
  ⟨Nat.ne_of_lt (by omega), Nat.ne_of_lt (by omega), Nat.ne_of_lt (by omega), Nat.ne_of_gt (by omega), List.mem_cons_self, nm2 (by omega) (by omega), nm2 (by omega) (by omega), Nat.ne_of_gt (by omega), List.mem_cons_self,
   nm2 (by omega) (by omega), nm2 (by omega) (by omega), nm2 (by omega) (by omega), nm2 (by omega) (by omega)⟩
def ZAt (k1 k2 : Bool) (n a b : Addr) (i : Nat) (h : Heap) : Prop := IsZip h (n + 4) (n + 2) (n + 3) .none ∧ IsTupOf2 h (n + 2) (.ref n) (.ref (n + 1)) ∧ (∃ x y, IsTupOf2 h (n + 3) x y) ∧ IsSI k1 h n a i ∧ IsSI k2 h (n + 1) b i
theorem turn_zipS {P : Program} {w : World} {K : PySem.W.Frag} {elts : List Expr} {kk : Nat} {tpos : Pos} {k1 k2 : Bool} {n a b : Nat} (ha : a < n) (hb : b < n) :
    Turn P w K (.Tuple elts kk tpos) (Itz2 K k1 k2 a b) [n + 4, n + 2, n + 3, n, n + 1] (n + 4) (ZAt k1 k2 n a b) where
  mem := by simp
  obj := fun i h st c hc => by
    obtain ⟨hz, hTI, ⟨x, y, hTO⟩, h1, h2⟩ := st
    have e' : c = n + 4 ∨ c = n + 2 ∨ c = n + 3 ∨ c = n ∨ c = n + 1 := by simpa using hc
    rcases e' with q | q | q | q | q
    · rw [q]; exact ⟨_, hz, fun v q => nomatch q⟩
    · rw [q]; exact ⟨_, hTI, fun v q => nomatch q⟩
    · rw [q]; exact ⟨_, hTO, fun v q => nomatch q⟩
    · rw [q]; exact h1.nocell
    · rw [q]; exact h2.nocell
  keep := fun i h h' st k => by
    obtain ⟨hz, hTI, ⟨x, y, hTO⟩, h1, h2⟩ := st
    exact ⟨k _ (by simp) _ hz, k _ (by simp) _ hTI, ⟨x, y, k _ (by simp) _ hTO⟩, h1.at fun o q => k _ (by simp) o q, h2.at fun o q => k _ (by simp) o q⟩
  item := by
    intro X hP hw hK hc i pins s σ H E I hf st hg
    subst hP hw hK
    obtain ⟨hz, hTI, ⟨x0, y0, hTO⟩, h1, h2⟩ := st
    obtain ⟨xs, ys, x, y, hqx, hqy, hx, hy⟩ := hg
    obtain ⟨its, rv, p⟩ := inv_sq I hqx
    obtain ⟨its2, rv2, p2⟩ := inv_sq I hqy
    obtain ⟨u, hu, ru⟩ := rv.get hx
    obtain ⟨u2, hu2, ru2⟩ := rv2.get hy
    have hzl : n + 4 < s.heap.objs.size := Heap.lt_size hz
    have l1 : i < its.toArray.size := by rw [List.size_toArray]; exact (List.getElem?_eq_some_iff.mp hu).1
    have l2 : i < its2.toArray.size := by rw [List.size_toArray]; exact (List.getElem?_eq_some_iff.mp hu2).1
    refine wpAny_pyNext_zipD2_item (sepS ha hb) (drawsS (A := X.A.in1) (I.ok.hd hc) k1 n a (Nat.ne_of_lt ha) its.toArray) (drawsS (A := X.A.in1) (I.ok.hd hc) k2 (n + 1) b (Nat.ne_of_lt (Nat.lt_of_lt_of_le hb (Nat.le_succ _))) its2.toArray) hz hTI hTO ⟨h1, p⟩ ⟨h2, p2⟩ l1 l2
      fun x1 x2 h' tk y1 y2 z' TO' s1 s2 hT hsz hk => ?_
    have e1 : x1 = u := by
      have z : its.toArray[i]? = some u := by simpa using hu
      exact Option.some.inj (y1.symm.trans z)
    have e2 : x2 = u2 := by
      have z : its2.toArray[i]? = some u2 := by simpa using hu2
      exact Option.some.inj (y2.symm.trans z)
    subst e1 e2
    refine ⟨_, rfl, wpAny_letOwnedTupleGo_zip (s := { s with heap := h', toks := tk }) z' fun h'' z'' sb => ?_⟩
    have hT2 : h''.get? s.heap.objs.size = some { cls := .type "tuple", data := .seq #[x1, x2] } := (sb.2 _ (Nat.ne_of_gt hzl)).trans hT
    have new : ObjOk X.prog X.w (upd H s.heap.objs.size (.tup [x, y])) h'' s.heap.objs.size (.tup [x, y]) :=
      ⟨by show 2 ≤ sizeLine; decide, [x1, x2], .cons ru (.cons ru2 .nil), ⟨_, hT2, rfl, _, rfl⟩⟩
    have I1 : Inv X pins σ (upd H s.heap.objs.size (.tup [x, y])) { s with heap := h'', toks := tk } :=
      I.turnedNew (ch := [n + 4, n + 2, n + 3, n, n + 1]) (fun c o hb q => (sb.2 c (fun q' => hb (by simp [q']))).trans (hk c o (fun q' => hb (by simp [q'])) (fun q' => hb (by simp [q'])) (fun q' => hb (by simp [q'])) (fun q' => hb (by simp [q'])) q)) hf (Nat.le_refl _) new
    refine ⟨.ref s.heap.objs.size, _, I1, rfl, ⟨_, x, y, rfl, I.hok.fresh (Nat.le_refl _), rfl, fun l hl => by rw [inv_sq_inj I hl hqx]; exact hx, fun l hl => by rw [inv_sq_inj I hl hqy]; exact hy⟩, ⟨z'', ?_, ⟨x1, x2, ?_⟩, ?_, ?_⟩, fun c hcm => ?_⟩
    · exact (sb.2 _ (sepS ha hb).TIz).trans (hk _ _ (sepS ha hb).TIz (sepS ha hb).TITO (sepS ha hb).TIi1 (sepS ha hb).TIi2 hTI)
    · exact (sb.2 _ (sepS ha hb).TOz).trans TO'
    · exact s1.1.at fun o q => (sb.2 _ (Ne.symm (sepS ha hb).zi1)).trans q
    · exact s2.1.at fun o q => (sb.2 _ (Ne.symm (sepS ha hb).zi2)).trans q
    · have hlt : c < s.heap.objs.size := Nat.lt_of_le_of_lt (mem5 hcm).2 hzl
      rw [upd_ne (Nat.ne_of_lt hlt)]
      exact (hf c hcm).1
  done := by
    intro X hP hw hK hc i pins s σ H E I hf st hg
    subst hP hw hK
    obtain ⟨hz, hTI, ⟨x0, y0, hTO⟩, h1, h2⟩ := st
    obtain ⟨xs, ys, hqx, hqy, hend⟩ := hg
    obtain ⟨its, rv, p⟩ := inv_sq I hqx
    obtain ⟨its2, rv2, p2⟩ := inv_sq I hqy
    have l1 := rv.length
    have l2 := rv2.length
    refine wpAny_pyNext_zipD2_end (sepS ha hb) (drawsS (A := X.A.in1) (I.ok.hd hc) k1 n a (Nat.ne_of_lt ha) its.toArray) (drawsS (A := X.A.in1) (I.ok.hd hc) k2 (n + 1) b (Nat.ne_of_lt (Nat.lt_of_lt_of_le hb (Nat.le_succ _))) its2.toArray) hz hTI hTO ⟨h1, p⟩ ⟨h2, p2⟩
      (by rw [List.size_toArray]; omega) (by rw [List.size_toArray]; omega) (by rw [List.size_toArray, List.size_toArray]; omega) fun h' tk hk => ⟨rfl, I.turnedL (t' := tk) (ch := [n + 4, n + 2, n + 3, n, n + 1]) (fun c o hb q =>
      hk c o (fun q' => hb (by simp [q'])) (fun q' => hb (by simp [q'])) (fun q' => hb (by simp [q'])) (fun q' => hb (by simp [q'])) q) hf⟩
  self := fun A i s Q E st h => wpAny_pyIter_zip st.1 h
def iZipS (K : PySem.W.Frag) (ta : TA) : TI := fun σ H R => ta σ H fun vs H1 => ∃ a b xs ys k1 k2, vs = [.ref a, .ref b] ∧ Sq k1 K H1 a xs ∧ Sq k2 K H1 b ys ∧ R (Itz2 K k1 k2 a b) H1
theorem pi_zipS {X : Cx} {e e2 : Expr} {ta : TA} {p pos tpos : Pos} {elts : List Expr} {kk : Nat} (hg : Gl X "zip") (hm : X.mg "zip" = none) (ha : PA X [e, e2] ta)
    (hs : starEach [e, e2] X.env = (false, eval e X.env) :: starEach [e2] X.env := by rfl) (hpl : (backTo pos (starEach [e2] X.env)).any (·.1) = false := by rfl) :
    PI X (.Tuple elts kk tpos) (.Call (.Name "zip" p) [e, e2] [] pos) (iZipS X.K ta) := by
  refine ⟨fun pins s σ H R I h => ?_⟩
  refine Call_ (ld_blt I hg hm PyProof.Rows.boot_zip (PyProof.Rows.callWith_type1 (thn (ha.run pos pins s σ H _ I h) fun us s1 ⟨vs, H1, I1, r1, q1⟩ => ?_) hs hpl))
  obtain ⟨a, b, xs, ys, k1, k2, ex, hqx, hqy, q⟩ := q1
  subst ex
  cases r1 with
  | cons r rr =>
    cases rr with
    | cons r' rr =>
      cases rr
      cases r
      cases r'
      obtain ⟨its, rv, p1⟩ := inv_sq I1 hqx
      obtain ⟨its2, rv2, p2⟩ := inv_sq I1 hqy
      refine zip_begins2 (beginsS k1 a its.toArray) (beginsS k2 b its2.toArray) p1 p2 fun h' hz hTI hTO h1 h2 hsz hk => wpAny_pyIter_zip hz ?_
      have I2 : Inv X pins σ H1 { s1 with heap := h' } := I1.kept (t' := s1.toks) hk
      refine ⟨s1.heap.objs.size + 4, [s1.heap.objs.size + 4, s1.heap.objs.size + 2, s1.heap.objs.size + 3, s1.heap.objs.size, s1.heap.objs.size + 1], _, _, H1, rfl, I2, turn_zipS (k1 := k1) (k2 := k2) (IsS.lt p1) (IsS.lt p2), ⟨hz, hTI, ⟨_, _, hTO⟩, isSI_new h1, isSI_new h2⟩, fun c hcm => ?_, q⟩
      have hle : s1.heap.objs.size ≤ c := (mem5 hcm).1
      exact I1.fpOk hle (I1.hok.fresh hle)
theorem pi_zipSK {X : Cx} {K : PySem.W.Frag} {e e2 : Expr} {ta : TA} {p pos tpos : Pos} {elts : List Expr} {kk : Nat} (hg : Gl X "zip") (hm : X.mg "zip" = none) (ha : PA X [e, e2] ta)
    (hK : X.K = K := by rfl) (hs : starEach [e, e2] X.env = (false, eval e X.env) :: starEach [e2] X.env := by rfl) (hpl : (backTo pos (starEach [e2] X.env)).any (·.1) = false := by rfl) :
    PI X (.Tuple elts kk tpos) (.Call (.Name "zip" p) [e, e2] [] pos) (iZipS K ta) := by
  subst hK
  exact pi_zipS hg hm ha hs hpl
theorem walk_zipS {K : PySem.W.Frag} {k1 k2 : Bool} {a b : Addr} {xs ys : List V} {n : Nat} (hn : n = min xs.length ys.length) :
    Walk (Itz2 K k1 k2 a b) n (fun H => Sq k1 K H a xs ∧ Sq k2 K H b ys) (YPair (fun i => xs[i]?) (fun i => ys[i]?)) :=
  ⟨fun i _ hi q => ⟨xs, ys, xs[i]'(by omega), ys[i]'(by omega), q.1, q.2, List.getElem?_eq_getElem (by omega), List.getElem?_eq_getElem (by omega)⟩,
   fun _ q => ⟨xs, ys, q.1, q.2, hn⟩,
   fun i H v H' _ q y => by
    obtain ⟨T, x, z, e1, e2, e3, f1, f2⟩ := y
    exact ⟨T, x, z, e1, e2, e3, f1 xs q.1, f2 ys q.2⟩⟩
end My

/-! dicts whose keys are tuples of ints, texts, None and such tuples -/
namespace My
open PySem PySem.Spec PyProof.Rows L2
abbrev NK := PySem.NestedKey
section
variable (P : Program) (w : World)
def rawN (a : Addr) (xs : List (NK × Addr × Value)) : Heap → Prop := fun h =>
  ∃ o es ep, h.get? a = some o ∧ o.ExactDict ∧ o.data = .dict es ep ∧ es.toList = xs.map (entryOfKey (nestedKind P w)) ∧ (xs.map (·.1)).Nodup
def dnO (a : Addr) (xs : List (NK × Addr × Value)) : HO := .ext (rawN P w a xs)
theorem dnO_ok {H : Hp} {h : Heap} {a : Addr} {xs : List (NK × Addr × Value)} (x : rawN P w a xs h) : ObjOk P w H h a (dnO P w a xs) :=
  ⟨x, let ⟨o, _, _, e, _⟩ := x; ⟨o, e⟩, fun _ _ ⟨o, es, ep, e, r⟩ k => ⟨o, es, ep, k _ e, r⟩⟩
end
/-- v is the key k, a tuple -/
structure KeyAt (K : PySem.W.Frag) (H : Hp) (v : V) (k : NK) : Prop where
  rf : ∃ b, v = .ref b
  dp : Dp K H v k.data
  dep : k.depth ≤ 8
/-- the tuples stand -/
def TS (K : PySem.W.Frag) (H H' : Hp) : Prop := ∀ b xs, SqT K H b xs → SqT K H' b xs
theorem ts_same {K : PySem.W.Frag} {H H' : Hp} (e : Same H H') : TS K H H' := fun _ _ h => same_tup e h
theorem ts_refl {K : PySem.W.Frag} {H : Hp} : TS K H H := fun _ _ h => h
theorem TS.trans {K : PySem.W.Frag} {H H' H2 : Hp} (a : TS K H H') (b : TS K H' H2) : TS K H H2 := fun _ _ h => b _ _ (a _ _ h)
/-- what is no tuple -/
def NTp : HO → Prop
  | .tup _ => False
  | .frz _ (.tup _) => False
  | _ => True
theorem ts_upd {K : PySem.W.Frag} {H : Hp} {a : Addr} {o o' : HO} (h : H a = some o) (n : NTp o) : TS K H (upd H a o') := fun b xs q => by
  rcases q with (q | ⟨u, q⟩) | q
  · exact .inl (.inl ((upd_ne fun e => by rw [e, h] at q; cases q; exact n).trans q))
  · exact .inl (.inr ⟨u, (upd_ne fun e => by rw [e, h] at q; cases q; exact n).trans q⟩)
  · exact .inr q
theorem ts_lock {K : PySem.W.Frag} {H : Hp} {a : Addr} {o o' : HO} (h : H a = some o) (n : NTp o) : TS K H (upd H a o') := ts_upd h n
mutual
theorem dp_ts {K : PySem.W.Frag} {H H' : Hp} (t : TS K H H') : ∀ (k : NK) (v : V), Dp K H v k.data → Dp K H' v k.data
  | .none, _, h => by simp only [NestedKey.data] at h ⊢; cases h; exact .non
  | .num i, _, h => by simp only [NestedKey.data] at h ⊢; cases h; exact .int _
  | .text x, _, h => by simp only [NestedKey.data] at h ⊢; cases h; exact .str _
  | .tup ks, _, h => by
    simp only [NestedKey.data] at h ⊢
    cases h with
    | tup hs ha => exact .tup (t _ _ hs) (dps_ts t ks _ ha)
theorem dps_ts {K : PySem.W.Frag} {H H' : Hp} (t : TS K H H') : ∀ (ks : List NK) (vs : List V), DpAll K H vs (NestedKey.datas ks) → DpAll K H' vs (NestedKey.datas ks)
  | [], _, h => by simp only [NestedKey.datas] at h ⊢; cases h; exact .nil
  | k :: ks, _, h => by
    simp only [NestedKey.datas] at h ⊢
    cases h with
    | cons h1 h2 => exact .cons (dp_ts t k _ h1) (dps_ts t ks _ h2)
end
theorem KeyAt.ts {K : PySem.W.Frag} {H H' : Hp} {v : V} {k : NK} (h : KeyAt K H v k) (t : TS K H H') : KeyAt K H' v k := ⟨h.rf, dp_ts t k v h.dp, h.dep⟩
abbrev KN (K : PySem.W.Frag) (H : Hp) : List (NK × V) → List (NK × Addr × Value) → Prop := Paired fun p q => p.1 = q.1 ∧ KeyAt K H (.ref q.2.1) p.1 ∧ RelV p.2 q.2.2
theorem KN.ts {K : PySem.W.Frag} {H H' : Hp} {kvs : List (NK × V)} {xs : List (NK × Addr × Value)} (r : KN K H kvs xs) (t : TS K H H') : KN K H' kvs xs := Paired.mapP r fun _ _ z => ⟨z.1, z.2.1.ts t, z.2.2⟩
theorem KN.val {K : PySem.W.Frag} {H : Hp} {kvs : List (NK × V)} {xs : List (NK × Addr × Value)} (r : KN K H kvs xs) (k : NK) : RelO (valV kvs k) ((atKey xs k).map (·.2)) := by
  unfold KN at r
  induction r with
  | nil => exact True.intro
  | @cons p q ps qs h t ih =>
    obtain ⟨h1, _, h2⟩ := h
    by_cases e : p.1 = k
    · have e' : q.1 = k := h1.symm.trans e
      have b : atKey (q :: qs) k = some q.2 := by simp [atKey, List.find?_cons, e']
      rw [valV_pos e, b]; exact h2
    · have e' : ¬ q.1 = k := fun z => e (h1.trans z)
      have b : atKey (q :: qs) k = atKey qs k := by simp [atKey, List.find?_cons, e']
      rw [valV_neg e, b]; exact ih
theorem KN.repl {K : PySem.W.Frag} {H : Hp} {kvs : List (NK × V)} {xs : List (NK × Addr × Value)} (r : KN K H kvs xs) (k : NK) {y : V} {u : Value} (ry : RelV y u) :
    KN K H (kvs.map fun kv => if kv.1 = k then (kv.1, y) else kv) (xs.map (putAt k u)) := by
  unfold KN at r ⊢
  induction r with
  | nil => exact .nil
  | @cons p q ps qs h t ih =>
    rw [List.map_cons, List.map_cons]
    refine .cons ?_ ih
    obtain ⟨h1, h2, h3⟩ := h
    unfold putAt
    by_cases e : p.1 = k
    · rw [if_pos e, if_pos (h1.symm.trans e)]; exact ⟨h1, h2, ry⟩
    · rw [if_neg e, if_neg (fun z => e (h1.trans z))]; exact ⟨h1, h2, h3⟩
theorem KN.put {K : PySem.W.Frag} {H : Hp} {kvs : List (NK × V)} {xs : List (NK × Addr × Value)} (r : KN K H kvs xs) (k : NK) {b : Addr} {y : V} {u : Value} (hb : KeyAt K H (.ref b) k) (ry : RelV y u) :
    KN K H (putK kvs k y) (storedH xs k b u) := by
  have e : (kvs.any fun kv => decide (kv.1 = k)) = (atKey xs k).isSome := by
    rw [valV_any, (r.val k).isSome_eq, Option.isSome_map]
  unfold putK storedH
  rw [e]
  by_cases q : (atKey xs k).isSome = true
  · rw [if_pos q, if_pos q]; exact r.repl k ry
  · rw [if_neg q, if_neg q]; exact Paired.snoc r ⟨rfl, hb, ry⟩
/-- at a stands (perhaps locked) a dict -/
structure DNx (K : PySem.W.Frag) (H : Hp) (a : Addr) (kvs : List (NK × V)) (xs : List (NK × Addr × Value)) : Prop where
  rel : KN K H kvs xs
  z : kvs.length ≤ sizeLine
  ns : (a == sysModules) = false
def DN (P : Program) (w : World) (K : PySem.W.Frag) (H : Hp) (a : Addr) (kvs : List (NK × V)) : Prop := ∃ xs, H a = some (dnO P w a xs) ∧ DNx K H a kvs xs
def DNr (P : Program) (w : World) (K : PySem.W.Frag) (H : Hp) (a : Addr) (kvs : List (NK × V)) : Prop := ∃ xs, Rd H a (dnO P w a xs) ∧ DNx K H a kvs xs
section
variable {P : Program} {w : World} {K : PySem.W.Frag} {H H' : Hp} {a : Addr} {kvs : List (NK × V)}
theorem DN.rd (h : DN P w K H a kvs) : DNr P w K H a kvs := let ⟨xs, h1, h2⟩ := h; ⟨xs, .inl h1, h2⟩
theorem DNx.ts {xs : List (NK × Addr × Value)} (h : DNx K H a kvs xs) (t : TS K H H') : DNx K H' a kvs xs := ⟨h.rel.ts t, h.z, h.ns⟩
theorem DN.mono (h : DN P w K H a kvs) (t : TS K H H') (e : ∀ o, H a = some o → H' a = some o) : DN P w K H' a kvs := let ⟨xs, h1, h2⟩ := h; ⟨xs, e _ h1, h2.ts t⟩
theorem DN.same (h : DN P w K H a kvs) (s : Same H H') : DN P w K H' a kvs := h.mono (ts_same s) fun o e => s _ _ e
theorem DNr.mono (h : DNr P w K H a kvs) (t : TS K H H') (e : ∀ o, H a = some o → H' a = some o) : DNr P w K H' a kvs := by
  obtain ⟨xs, h1 | ⟨u, h1⟩, h2⟩ := h
  · exact ⟨xs, .inl (e _ h1), h2.ts t⟩
  · exact ⟨xs, .inr ⟨u, e _ h1⟩, h2.ts t⟩
theorem DNr.same (h : DNr P w K H a kvs) (s : Same H H') : DNr P w K H' a kvs := h.mono (ts_same s) fun o e => s _ _ e
theorem DN.there (h : DN P w K H a kvs) : ∃ φ, H a = some (.ext φ) := let ⟨_, h1, _⟩ := h; ⟨_, h1⟩
theorem DN.ts_at (h : DN P w K H a kvs) {o : HO} : TS K H (upd H a o) := let ⟨_, h1⟩ := h.there; ts_upd h1 True.intro
/-- something else is written -/
theorem DN.upd (h : DN P w K H a kvs) {b : Addr} {o o' : HO} (hb : H b = some o) (n : NTp o) (ne : ∀ φ, o ≠ .ext φ) : DN P w K (L2.upd H b o') a kvs := by
  obtain ⟨φ, e⟩ := h.there
  exact h.mono (ts_upd hb n) fun u q => (upd_ne fun z => by rw [z, hb] at e; cases e; exact ne _ rfl).trans q
theorem DN.updD (h : DN P w K H a kvs) {b : Addr} {o o' : HO} (hb : H b = some o) (n : NTp o) (ne : b ≠ a) : DN P w K (L2.upd H b o') a kvs :=
  h.mono (ts_upd hb n) fun u q => (upd_ne (Ne.symm ne)).trans q
/-- the locked dict -/
theorem DN.lock (h : DN P w K H a kvs) : ∃ u, H a = some u ∧ Mut (some u) ∧ (∀ od, DNr P w K (L2.upd H a (.frz od u)) a kvs) ∧ ∀ H' od, H' a = some (.frz od u) → DNr P w K H' a kvs → DN P w K (L2.upd H' a u) a kvs := by
  obtain ⟨xs, h1, h2⟩ := h
  refine ⟨_, h1, True.intro, fun od => ⟨xs, .inr ⟨od, upd_same⟩, h2.ts (ts_upd h1 True.intro)⟩, fun H' od e h' => ?_⟩
  obtain ⟨ys, hr, hy⟩ := h'
  rcases hr with q | ⟨u, q⟩
  · rw [e] at q; cases q
  · rw [e] at q
    have q2 : dnO P w a xs = dnO P w a ys := by injection q with q; injection q
    exact ⟨ys, by rw [upd_same, q2], hy.ts (ts_upd e True.intro)⟩
end
section
variable {X : Cx} {pins : List (Addr × Obj)} {σ : L2.St} {H : Hp} {s : Shared}
mutual
theorem nk_is (I : Inv X pins σ H s) : ∀ (k : NK) (v : V) (u : Value), Dp X.K H v k.data → RelV v u → NestedIs s.heap k u
  | .none, _, _, h, r => by simp only [NestedKey.data] at h; cases h; cases r; exact .none
  | .num i, _, _, h, r => by simp only [NestedKey.data] at h; cases h; obtain ⟨t, rfl⟩ := r; exact .int i t
  | .text x, _, _, h, r => by simp only [NestedKey.data] at h; cases h; obtain ⟨t, rfl⟩ := r; exact .text x t
  | .tup ks, _, _, h, r => by
    simp only [NestedKey.data] at h
    cases h with
    | tup hs ha =>
      cases r
      obtain ⟨its, rv, ⟨o, ho, hc, n, hd⟩, _⟩ := I.tuple hs
      exact .tup ho hc hd (nks_is I ks _ its ha rv)
theorem nks_is (I : Inv X pins σ H s) : ∀ (ks : List NK) (vs : List V) (us : List Value), DpAll X.K H vs (NestedKey.datas ks) → Vals vs us → NestedAll s.heap ks us
  | [], _, _, h, r => by simp only [NestedKey.datas] at h; cases h; cases r; exact .nil
  | k :: ks, _, _, h, r => by
    simp only [NestedKey.datas] at h
    cases h with
    | cons h1 h2 =>
      cases r with
      | cons r1 r2 => exact .cons (nk_is I k _ _ h1 r1) (nks_is I ks _ _ h2 r2)
end
theorem key_is (I : Inv X pins σ H s) {b : Addr} {k : NK} (h : KeyAt X.K H (.ref b) k) : (nestedKind X.prog X.w).is s.heap k b := ⟨nk_is I k _ _ h.dp rfl, h.dep⟩
theorem dn_of (I : Inv X pins σ H s) {a : Addr} {kvs : List (NK × V)} (d : DNr X.prog X.w X.K H a kvs) :
    ∃ xs, KN X.K H kvs xs ∧ s.heap.DictOfH (nestedKind X.prog X.w) a xs ∧ kvs.length ≤ sizeLine ∧ (a == sysModules) = false := by
  obtain ⟨xs, hr, ⟨rel, z, ns⟩⟩ := d
  obtain ⟨⟨o, es, ep, h1, h2, h3, h4, h5⟩, _⟩ := (show ObjOk X.prog X.w H s.heap a (dnO X.prog X.w a xs) from hr.ok I.hok)
  refine ⟨xs, rel, ⟨o, es, ep, h1, h2, h3, h4, fun x hx => ?_, h5⟩, z, ns⟩
  have all : ∀ {l : List (NK × V)} {m : List (NK × Addr × Value)}, KN X.K H l m → ∀ x ∈ m, (nestedKind X.prog X.w).is s.heap x.1 x.2.1 := by
    intro l m q
    unfold KN at q
    induction q with
    | nil => intro x hx; exact nomatch hx
    | @cons p q ps qs hq t ih =>
      intro x hx
      rcases List.mem_cons.mp hx with e | hx
      · subst e
        exact key_is I (by rw [← hq.1]; exact hq.2.1)
      · exact ih x hx
  exact all rel x hx
theorem room_n {A : Around} (hu : A.units + 64 < cLine) : (nestedKind X.prog X.w).room A.in1 := by
  show A.in1.units + 8 < cLine
  rw [Around.in1_units]
  omega
theorem room_n0 {A : Around} (hu : A.units + 64 < cLine) : (nestedKind X.prog X.w).room A := by
  show A.units + 8 < cLine
  omega
theorem kn_len {K : PySem.W.Frag} {H : Hp} {kvs : List (NK × V)} {xs : List (NK × Addr × Value)} (r : KN K H kvs xs) : kvs.length = xs.length := Paired.length r
end
/-! ### operators -/
def rInN (P : Program) (w : World) (K : PySem.W.Frag) : R2 := fun x y H Q => ∃ a kvs k, y = .ref a ∧ DNr P w K H a kvs ∧ KeyAt K H x k ∧ Q (.bl (valV kvs k).isSome) H
def rNotInN (P : Program) (w : World) (K : PySem.W.Frag) : R2 := fun x y H Q => ∃ a kvs k, y = .ref a ∧ DNr P w K H a kvs ∧ KeyAt K H x k ∧ Q (.bl (!(valV kvs k).isSome)) H
def rIxN (P : Program) (w : World) (K : PySem.W.Frag) : R2 := fun x y H Q => ∃ a kvs k v, x = .ref a ∧ DNr P w K H a kvs ∧ KeyAt K H y k ∧ valV kvs k = some v ∧ Q v H
def rSetN (P : Program) (w : World) (K : PySem.W.Frag) : TSet := fun o i v H Q => ∃ a kvs k, o = .ref a ∧ DN P w K H a kvs ∧ KeyAt K H i k ∧ kvs.length < sizeLine ∧ ∀ u, DN P w K (upd H a u) a (putK kvs k v) → Q (upd H a u)
section
variable {X : Cx} {P : Program} {w : World} {K : PySem.W.Frag}
theorem op_inN (hu : X.A.units + 64 < cLine) (hP : X.prog = P := by rfl) (hw : X.w = w := by rfl) (hK : X.K = K := by rfl) : OpR X (compareOp .In) (rInN P w K) := by
  subst hP hw hK
  rintro pins s σ H x y v u Q I rx ry ⟨a, kvs, k, rfl, d, hk, q⟩
  obtain ⟨b, rfl⟩ := hk.rf
  cases rx
  cases ry
  obtain ⟨xs, rel, dd, _, hd⟩ := dn_of I d
  refine wpAny_in_heap (room_n hu) (key_is I hk) hd dd ?_
  have e := (rel.val k).isSome_eq
  rw [Option.isSome_map] at e
  rw [← e]
  exact ⟨.bl _, H, I.tok _, rfl, q⟩
theorem op_notInN (hu : X.A.units + 64 < cLine) (hP : X.prog = P := by rfl) (hw : X.w = w := by rfl) (hK : X.K = K := by rfl) : OpR X (compareOp .NotIn) (rNotInN P w K) := by
  subst hP hw hK
  rintro pins s σ H x y v u Q I rx ry ⟨a, kvs, k, rfl, d, hk, q⟩
  obtain ⟨b, rfl⟩ := hk.rf
  cases rx
  cases ry
  obtain ⟨xs, rel, dd, _, hd⟩ := dn_of I d
  refine wpAny_notIn_heap (room_n hu) (key_is I hk) hd dd ?_
  have e := (rel.val k).isSome_eq
  rw [Option.isSome_map] at e
  rw [← e]
  exact ⟨.bl _, H, I.tok _, rfl, q⟩
theorem ix_dn (hu : X.A.units + 64 < cLine) (hP : X.prog = P := by rfl) (hw : X.w = w := by rfl) (hK : X.K = K := by rfl) : IxR X (rIxN P w K) := by
  subst hP hw hK
  rintro value slice pins s σ H x y v u Q I rx ry ⟨a, kvs, k, r, rfl, d, hk, hv, q⟩ hs
  obtain ⟨b, rfl⟩ := hk.rf
  cases rx
  cases ry
  obtain ⟨xs, rel, dd, _, hd⟩ := dn_of I d
  obtain ⟨w', hw', rw'⟩ := RelO.some_of (v := r) (o := (atKey xs k).map (·.2)) (by rw [← hv]; exact rel.val k)
  obtain ⟨p, hp, hp2⟩ := Option.map_eq_some_iff.mp hw'
  refine subscriptTail_builtinR (x := w') dd.typeIs PySem.F.slot_dict_getitem.lookup
    (wpAny_getItem_heap (Q := fun r s' => r = w' ∧ EP X pins σ Q r s') (room_n hu) (key_is I hk) dd hp ⟨hp2, ?_⟩) hs
  rw [hp2]
  exact ⟨r, H, I.tok _, rw', q⟩
theorem set_dn (hu : X.A.units + 64 < cLine) (hP : X.prog = P := by rfl) (hw : X.w = w := by rfl) (hK : X.K = K := by rfl) : PSet X (rSetN P w K) := by
  subst hP hw hK
  rintro pins s σ H o i v ov iv u Q I ro ri rv ⟨a, kvs, k, rfl, d, hk, hz, q⟩
  obtain ⟨b, rfl⟩ := hk.rf
  cases ro
  cases ri
  obtain ⟨xs, rel, dd, _, hd⟩ := dn_of I d.rd
  obtain ⟨φ, ha⟩ := d.there
  have hl := kn_len rel
  have hzx : xs.length ≤ sizeLine := by omega
  refine wpAny_setItem_heap (hsz := hzx) (room_n hu) (key_is I hk) dd fun h' dd' hs => ?_
  obtain ⟨q1, es, ep, hq, h2, h3, h4, _, h5⟩ := dd'
  have raw : rawN X.prog X.w a (storedH xs k b u) h' := ⟨q1, es, ep, hq, h2, h3, h4, h5⟩
  refine ⟨_, d_write I (by rw [ha]; exact True.intro) hs ⟨q1, hq⟩ (dnO_ok _ _ raw), q _ ⟨_, upd_same, ?_, ?_, hd⟩⟩
  · exact (rel.put k hk rv).ts d.ts_at
  · have := length_putK kvs k v; omega
end
/-! ### {} -/
def tDNewN (P : Program) (w : World) (K : PySem.W.Frag) : TE := fun _ H Q => ∀ p u, H p = none → DN P w K (upd H p u) p [] → Q (.ref p) (upd H p u)
theorem dn_laid {X : Cx} {pins : List (Addr × Obj)} {σ : L2.St} {H : Hp} {s : Shared} (I : Inv X pins σ H s) {tk : Nat} :
    Inv X pins σ (upd H s.heap.objs.size (dnO X.prog X.w s.heap.objs.size [])) { s with heap := s.heap.push { cls := .type "dict", data := .dict #[] }, toks := tk } ∧ DN X.prog X.w X.K (upd H s.heap.objs.size (dnO X.prog X.w s.heap.objs.size [])) s.heap.objs.size [] := by
  have raw : rawN X.prog X.w s.heap.objs.size [] (s.heap.push { cls := .type "dict", data := .dict #[] }) := ⟨_, #[], 0, Heap.get?_push_size _ rfl, ⟨rfl, rfl, rfl⟩, rfl, rfl, List.nodup_nil⟩
  exact ⟨I.laid (t' := tk) (fun _ _ q => Heap.get?_push_of_some _ q) (Nat.le_refl _) (dnO_ok _ _ raw), _, upd_same, .nil, Nat.zero_le _, beq_eq_false_iff_ne.mpr (Ne.symm (Nat.ne_of_lt I.big))⟩
section
variable {X : Cx} {P : Program} {w : World} {K : PySem.W.Frag}
theorem pe_dnewN {pos : Pos} (hP : X.prog = P := by rfl) (hw : X.w = w := by rfl) (hK : X.K = K := by rfl) : PE X (.Dict [] [] pos) (tDNewN P w K) := by
  subst hP hw hK
  refine ⟨fun pins s σ H Q I h => wpAny_Dict_empty ?_⟩
  obtain ⟨I1, d⟩ := dn_laid (tk := s.toks) I
  exact ⟨.ref s.heap.objs.size, _, I1, rfl, h _ _ (I.hok.fresh (Nat.le_refl _)) d⟩
/-- {k: v} -/
def qDisp1N (P : Program) (w : World) (K : PySem.W.Frag) (p : Addr) (Q : VK) : List (V × V) → Hp → Prop := fun ps H2 => match ps with
  | [(x, y)] => DN P w K H2 p [] ∧ ∃ k, KeyAt K H2 x k ∧ ∀ u', DN P w K (upd H2 p u') p [(k, y)] → Q (.ref p) (upd H2 p u')
  | _ => False
def tDisp1N (P : Program) (w : World) (K : PySem.W.Frag) (tk tv : TE) : TE := fun σ H Q => ∀ p u, H p = none → DN P w K (upd H p u) p [] → tk σ (upd H p u) fun x H1 => tv σ H1 fun y H2 => qDisp1N P w K p Q [(x, y)] H2
theorem pe_disp1N {k v : Expr} {tk tv : TE} {pos : Pos} (hk : PE X k tk) (hv : PE X v tv) (hu : X.A.units + 64 < cLine) (hP : X.prog = P := by rfl) (hw : X.w = w := by rfl) (hK : X.K = K := by rfl) : PE X (.Dict [some k] [v] pos) (tDisp1N P w K tk tv) := by
  subst hP hw hK
  refine ⟨fun pins s σ H Q I h => ?_⟩
  obtain ⟨I1, d⟩ := dn_laid (tk := s.toks) I
  have hf := I.hok.fresh (Nat.le_refl s.heap.objs.size)
  have h0 : pairTrees [some k] [v] X.env pos ≠ [] := by intro z; cases z
  have h15 : (pairTrees [some k] [v] X.env pos).length ≤ 15 := Nat.le_of_ble_eq_true rfl
  have hsh : (evalEachOpt [some k] X.env).zip ((evalEach [v] X.env).map fun v => do let x ← v; standAt pos; pure x) = (pairTrees [some k] [v] X.env pos).map fun p => (some p.1, p.2) := rfl
  rw [arm_eval_Dict, hsh, dictDisplay_pairs _ h0 (by omega)]
  refine wpAny_bind (wpAny_standAt (wpAny_bind (wpAny_subDictH (knd := nestedKind X.prog X.w) (Q := fun d s' => wpAny (model X.prog X.w) X.A (pure (Value.ref d)) (EP X pins σ Q) X.xe s') (room_n0 hu) h15 ?_)))
  refine thn ((pps_cons hk hv pps_nil).run pins _ σ _ (qDisp1N X.prog X.w X.K s.heap.objs.size Q) I1 (h _ _ hf d)) fun ws s2 ⟨ps, H2, I2, rel, q⟩ => ?_
  match ps, rel, q with
  | [], _, q => exact q.elim
  | _ :: _ :: _, _, q => exact q.elim
  | [(x, y)], rel, q =>
    obtain ⟨d2, k2, hk2, q⟩ := q
    cases rel with
    | @cons _ z _ zs r rest =>
      cases rest
      obtain ⟨a1, a2⟩ := z
      obtain ⟨b, rfl⟩ := hk2.rf
      obtain ⟨r1, r2⟩ := r
      cases r1
      obtain ⟨xs, rel2, dd, z2, hd⟩ := dn_of I2 d2.rd
      have hxs : xs = [] := by cases rel2; rfl
      subst hxs
      refine ⟨[(k2, b, a2)], ⟨rfl, rfl, key_is I2 hk2, trivial⟩, dd, fun h' tk dd' hs => wpAny_pure ?_⟩
      obtain ⟨q1, es, ep, hq, h2, h3, h4, his, h5⟩ := dd'
      have raw : rawN X.prog X.w s.heap.objs.size [(k2, b, a2)] h' := ⟨q1, es, ep, hq, h2, h3, h4, h5⟩
      obtain ⟨φ, ha⟩ := d2.there
      exact ⟨.ref s.heap.objs.size, _, d_write I2 (by rw [ha]; exact True.intro) hs ⟨q1, hq⟩ (dnO_ok _ _ raw), rfl, q _ ⟨_, upd_same, .cons ⟨rfl, hk2.ts d2.ts_at, r2⟩ .nil, by show 1 ≤ sizeLine; decide, hd⟩⟩
end
end My

/-! d.get(k, x), walks over keys, sorted(d), sorted of data -/
namespace My
open PySem PySem.Spec PyProof.Rows L2
/-! ### d.get(k, x) -/
def tDGet2N (P : Program) (w : World) (K : PySem.W.Frag) (td ty tx : TE) : TE := fun σ H Q => td σ H fun x H1 => ∃ a kvs0, x = .ref a ∧ DNr P w K H1 a kvs0 ∧ ty σ H1 fun y H2 => tx σ H2 fun z H3 => ∃ kvs k, DNr P w K H3 a kvs ∧ KeyAt K H3 y k ∧ Q ((valV kvs k).getD z) H3
section
variable {X : Cx} {P : Program} {w : World} {K : PySem.W.Frag}
theorem dn_typeIs {pins : List (Addr × Obj)} {σ : L2.St} {H : Hp} {s : Shared} (I : Inv X pins σ H s) {a : Addr} {kvs : List (NK × V)} (d : DNr X.prog X.w X.K H a kvs) :
    s.TypeIs (.ref a) "dict" ∧ ∀ b, Value.ref a = .ref b → ∃ ob, s.heap.get? b = some ob ∧ ob.dict = none := by
  obtain ⟨xs, rel, ⟨o, es, ep, h1, h2, h3⟩, _⟩ := dn_of I d
  refine ⟨⟨o, h1, h2.1⟩, fun b q => ?_⟩
  cases q
  exact ⟨o, h1, h2.2.1⟩
theorem pe_dget2N {o e f : Expr} {apos cpos : Pos} {td ty tx : TE} (hu : X.A.units + 64 < cLine) (ho : PE X o td) (he : PE X e ty) (hf : PE X f tx) (m : M2 X o "get" apos e f cpos) (hP : X.prog = P := by rfl) (hw : X.w = w := by rfl) (hK : X.K = K := by rfl) :
    PE X (.Call (.Attribute o "get" apos) [e, f] [] cpos) (tDGet2N P w K td ty tx) := by
  subst hP hw hK
  refine ⟨fun pins s σ H Q I h => ?_⟩
  refine wpAny_Call_method m.base m.few m.line PySem.F.plainAttrs_dict PySem.F.slot_dict_get PySem.F.type_dict_get (thn (ho.run pins s σ H _ I h) fun u s1 ⟨x, H1, I1, rx, a, kvs0, ex, d, q1⟩ => ?_)
  subst ex
  obtain rfl : u = Value.ref a := rx
  obtain ⟨t1, t2⟩ := dn_typeIs I1 d
  obtain ⟨_, _, _, _, hd⟩ := dn_of I1 d
  refine ⟨t1, t2, ?_⟩
  rw [m.trees]
  refine wpAny_dict_get2_heap (room_n hu) hd (thn (he.run pins s1 σ H1 _ I1 q1) fun iv s2 ⟨y, H2, I2, ry, q2⟩ =>
    thn (hf.run pins s2 σ H2 _ I2 q2) fun fv s3 ⟨z, H3, I3, rz, kvs, k, d3, hk, q3⟩ => ?_)
  obtain ⟨b, rfl⟩ := hk.rf
  cases ry
  obtain ⟨xs, rel, dd, _, _⟩ := dn_of I3 d3
  exact ⟨b, k, xs, rfl, key_is I3 hk, dd, _, H3, I3.tok _, RelO.getD (rel.val k) rz, q3⟩
end
/-! ### walks over the keys of a locked dict -/
def DNf (P : Program) (w : World) (K : PySem.W.Frag) (H : Hp) (a : Addr) (o : Obj) (kvs : List (NK × V)) : Prop := ∃ xs, H a = some (.frz o (dnO P w a xs)) ∧ DNx K H a kvs xs
def Itn (P : Program) (w : World) (K : PySem.W.Frag) (d : Addr) (o : Obj) (kvs : List (NK × V)) : It :=
  ⟨fun i H => DNf P w K H d o kvs ∧ i < kvs.length, fun i H x H' => H' = H ∧ ∃ k v, kvs[i]? = some (k, v) ∧ KeyAt K H x k, fun i H => DNf P w K H d o kvs ∧ kvs.length ≤ i⟩
theorem DNf.rd {P : Program} {w : World} {K : PySem.W.Frag} {H : Hp} {a : Addr} {o : Obj} {kvs : List (NK × V)} (h : DNf P w K H a o kvs) : DNr P w K H a kvs := let ⟨xs, h1, h2⟩ := h; ⟨xs, .inr ⟨o, h1⟩, h2⟩
theorem DNf.mono {P : Program} {w : World} {K : PySem.W.Frag} {H H' : Hp} {a : Addr} {o : Obj} {kvs : List (NK × V)} (h : DNf P w K H a o kvs) (t : TS K H H') (e : ∀ o, H a = some o → H' a = some o) : DNf P w K H' a o kvs := let ⟨xs, h1, h2⟩ := h; ⟨xs, e _ h1, h2.ts t⟩
section
variable {X : Cx} {pins : List (Addr × Obj)} {σ : L2.St} {H : Hp} {s : Shared} {d : Addr} {o : Obj}
theorem frzN {kvs : List (NK × V)} (I : Inv X pins σ H s) (h : DNf X.prog X.w X.K H d o kvs) :
    (d == sysModules) = false ∧ s.heap.get? d = some o ∧ o.ExactDict ∧ ∃ (es : Array DictEntry) (ep : Nat), o.data = .dict es ep ∧ es.size = kvs.length ∧
      ∀ (i : Nat) (k : NK) (v : V), kvs[i]? = some (k, v) → ∃ (en : DictEntry) (q : Addr), es[i]? = some en ∧ en.key = .ref q ∧ L2.RelV v en.val ∧ KeyAt X.K H (.ref q) k := by
  obtain ⟨xs, hx, ⟨pr, z, hs⟩⟩ := h
  obtain ⟨hd, ⟨o', es, ep, ho, hx, hdt, he, _⟩, _⟩ := I.hok d _ hx
  rw [hd] at ho
  cases ho
  refine ⟨hs, hd, hx, es, ep, hdt, ?_, fun i k v e => ?_⟩
  · have l1 : es.size = xs.length := size_of_entries he
    have l2 : kvs.length = xs.length := Paired.length pr
    omega
  · obtain ⟨b, hb, e1, e2, e3⟩ := paired_get pr e
    have q := entry_at he i
    rw [hb] at q
    exact ⟨_, b.2.1, q, rfl, e3, e2⟩
end
section
variable {P : Program} {w : World} {K : PySem.W.Frag} {tg : Expr} {d : Addr} {o : Obj} {es : Array DictEntry} {ep : Nat}
theorem turn_keysN {kvs : List (NK × V)} (it : Addr) (hod : o.data = .dict es ep) : Turn P w K tg (Itn P w K d o kvs) [it] it (fun i h => h.IsKeyIter it d i kvs.length ep) where
  mem := by simp
  obj := fun i h st b hb => by
    have e : b = it := by simpa using hb
    subst e
    obtain ⟨oi, e, c, dd⟩ := st
    exact ⟨oi, e, fun v z => by rw [dd] at z; cases z⟩
  keep := fun i h h' st k => st.at fun oi e => k it (by simp) oi e
  item := by
    intro X hP hw hK hc i pins s σ H E I hf st hg
    subst hP hw hK
    obtain ⟨hd, hi⟩ := hg
    obtain ⟨f0, f1, f2, f3, f4, f5⟩ := hf it (by simp)
    obtain ⟨hs, hgd, hx, es', ep', hdt, hsz, ent⟩ := frzN I hd
    obtain ⟨rfl, rfl⟩ := dict_ep hod hdt
    obtain ⟨⟨k, v⟩, hkv⟩ : ∃ p, kvs[i]? = some p := ⟨kvs[i], List.getElem?_eq_getElem hi⟩
    obtain ⟨en, q, hen, hkey, _, hq⟩ := ent i k v hkv
    refine next_key_item st hgd hdt hsz hen fun h' st' sb => ?_
    have I1 : Inv X pins σ H { s with heap := h' } := I.turned (t' := s.toks) (fun b ob hb e => (sb.2 b hb).trans e) f0 f1 f3 f4 f5
    obtain ⟨oi, e, c, dd⟩ := id st'
    exact ⟨en.key, rfl, go_of (s := { s with heap := h' }) e c dd (by decide) ⟨.ref q, H, I1, hkey, ⟨rfl, k, v, hkv, hq⟩, st', fun b hb => (hf b hb).1⟩⟩
  done := by
    intro X hP hw hK hc i pins s σ H E I hf st hg
    subst hP hw hK
    obtain ⟨hd, hi⟩ := hg
    obtain ⟨f0, f1, f2, f3, f4, f5⟩ := hf it (by simp)
    obtain ⟨hs, hgd, hx, es', ep', hdt, hsz, ent⟩ := frzN I hd
    obtain ⟨rfl, rfl⟩ := dict_ep hod hdt
    exact next_key_end (I.ok.hd hc) st hgd hdt hsz hi fun h' eb => ⟨rfl, I.turned (t' := s.toks) (fun b ob hb e => eb b ob hb e) f0 f1 f3 f4 f5⟩
  self := fun A i s Q E st h => by
    refine wpAny_pyIter_slot st.typeIs F.slot_dict_keyiterator_iter (wpAny_call_entry F.slot_dict_keyiterator_iter st.typeIs F.entry_dict_keyiterator_iter ?_ (F.args_dict_keyiterator_iter_1 _))
    show wpAny _ _ (ret (.ref it)) _ _ s
    exact wpAny_pure ⟨_, rfl, "dict_keyiterator", _, st.typeIs, F.slot_dict_keyiterator_next.lookup, h⟩
def iKeysN (P : Program) (w : World) (K : PySem.W.Frag) (td : TE) : TI := fun σ H R => td σ H fun x H1 => ∃ d o kvs, x = .ref d ∧ DNf P w K H1 d o kvs ∧ R (Itn P w K d o kvs) H1
theorem pi_keysN {X : Cx} {tg e : Expr} {td : TE} (he : PE X e td) (hP : X.prog = P := by rfl) (hw : X.w = w := by rfl) (hK : X.K = K := by rfl) : PI X tg e (iKeysN P w K td) := by
  subst hP hw hK
  refine ⟨fun pins s σ H R I h => ?_⟩
  refine thn (he.run pins s σ H _ I h) fun u s1 ⟨x, H1, I1, rx, d, o, kvs, ex, hd, q⟩ => ?_
  subst ex
  obtain rfl : u = Value.ref d := rx
  obtain ⟨hs, hgd, hx, es, ep, hdt, hsz, ent⟩ := frzN I1 hd
  refine iter_keys hs hgd hx hdt (pi_one (tk := s1.toks) I1 _ (turn_keysN _ hdt) ⟨_, Heap.get?_push_size _ rfl, rfl, ?_⟩ q)
  rw [hsz] <;> rfl
theorem walk_keysN {kvs : List (NK × V)} : Walk (Itn P w K d o kvs) kvs.length (fun H => DNf P w K H d o kvs) (fun i H x H' => H' = H ∧ ∃ k v, kvs[i]? = some (k, v) ∧ KeyAt K H x k) :=
  ⟨fun _ _ hi q => ⟨q, hi⟩, fun _ q => ⟨q, Nat.le_refl _⟩, fun _ _ _ _ _ _ y => y⟩
/-- the dict stands while a comprehension or loop walks it: from the lock -/
theorem DN.lockF {H : Hp} {a : Addr} {kvs : List (NK × V)} (h : DN P w K H a kvs) : ∃ u, H a = some u ∧ Mut (some u) ∧ (∀ od, DNf P w K (L2.upd H a (.frz od u)) a od kvs) ∧ ∀ H' od, H' a = some (.frz od u) → DNf P w K H' a od kvs → DN P w K (L2.upd H' a u) a kvs := by
  obtain ⟨xs, h1, h2⟩ := h
  refine ⟨_, h1, True.intro, fun od => ⟨xs, upd_same, h2.ts (ts_upd h1 True.intro)⟩, fun H' od e h' => ?_⟩
  obtain ⟨ys, q, hy⟩ := h'
  rw [e] at q
  have q2 : dnO P w a xs = dnO P w a ys := by injection q with q; injection q
  exact ⟨ys, by rw [upd_same, q2], hy.ts (ts_upd e True.intro)⟩
end
/-! ### sorted -/
theorem vals_each : ∀ {bs : List (V × PyData)} {us : List Value}, Vals (bs.map (·.1)) us → PySem.W.EachIs (fun u (b : V × PyData) => L2.RelV b.1 u) us bs
  | [], us, r => by cases r; exact .nil
  | b :: bs, us, r => by
    rw [List.map_cons] at r
    cases r with
    | cons h t => exact .cons h (vals_each t)
theorem each_vals : ∀ {bs : List (V × PyData)} {us : List Value}, PySem.W.EachIs (fun u (b : V × PyData) => L2.RelV b.1 u) us bs → Vals (bs.map (·.1)) us
  | _, _, .nil => .nil
  | _, _, .cons h t => by rw [List.map_cons]; exact .cons h (each_vals t)
theorem each_and {α β : Type} {R S : α → β → Prop} : ∀ {as : List α} {bs : List β}, PySem.W.EachIs R as bs → (∀ a, ∀ b ∈ bs, R a b → S a b) → PySem.W.EachIs S as bs
  | _, _, .nil, _ => .nil
  | _, _, .cons h t, f => .cons (f _ _ (List.mem_cons_self ..) h) (each_and t fun a b hb => f a b (List.mem_cons_of_mem _ hb))
abbrev ordD : V × PyData → V × PyData → Bool := PySem.W.dataLe false Prod.snd
/-- what sorted asks of the data: all tuples (with an item), or none a tuple -/
structure SortOk (ds : List PyData) : Prop where
  al : PySem.W.AllAlike ds
  so : PySem.W.Sortable ds
  dep : ∀ d ∈ ds, d.depth ≤ 32
section
variable {X : Cx}
theorem cr_sortedD {K : PySem.W.Frag} (hu : X.A.units + 64 < cLine) (hK : X.K = K := by rfl) : CallR X (.builtin "sorted") (fun xs H Q => ∃ (a : Addr) (bs : List (V × PyData)), xs = [.ref a] ∧ SqL K H a (bs.map (·.1)) ∧ (∀ b ∈ bs, Dp K H b.1 b.2) ∧ SortOk (bs.map (·.2)) ∧
    ∀ p, H p = none → Q (.ref p) (upd H p (.lst ((bs.mergeSort ordD).map (·.1))))) := by
  subst hK
  rintro pins s σ H vs us Q I r ⟨a, bs, rfl, hs, hd, ok, q⟩
  obtain ⟨its, rv, hl, hz⟩ := I.list hs
  rw [Vals.ref1 r]
  rw [List.length_map] at hz
  have e := vals_each rv
  have er : PySem.W.EachIs (fun v b => ∃ as, Reads s.heap v (Prod.snd b) as) its bs := each_and e fun u b hb ru => Dp.reads I b.2 b.1 u (hd b hb) ru
  refine PySem.W.sorted_data (enc := Prod.snd) hl.isList e er ok.al ok.so hz (fun b hb => ?_) fun out hlen ho => ?_
  · have := ok.dep b.2 (List.mem_map.mpr ⟨b, hb, rfl⟩)
    omega
  · obtain ⟨ep, he'⟩ := PyProof.Rows.sortedAll_at s.heap its out.toArray
    have hv := each_vals ho
    have hlen' : ((bs.mergeSort ordD).map (·.1)).length ≤ sizeLine := by rw [List.length_map, List.length_mergeSort]; exact hz
    exact ⟨.ref _, upd H (s.heap.objs.size + 1) (.lst ((bs.mergeSort ordD).map (·.1))), I.laid (t' := s.toks) (fun _ _ => PyProof.Rows.sortedAll_old) (Nat.le_succ _) ⟨hlen', out, ep, hv, he'⟩, rfl, q _ (I.hok.fresh (Nat.le_succ _))⟩
theorem each_xs : ∀ xs : List (NK × Addr × Value), PySem.W.EachIs (fun u (b : V × NK) => L2.RelV b.1 u) (xs.map fun x => Value.ref x.2.1) (xs.map fun x => ((V.ref x.2.1, x.1) : V × NK))
  | [] => .nil
  | x :: xs => .cons rfl (each_xs xs)
theorem each_valsN : ∀ {bs : List (V × NK)} {us : List Value}, PySem.W.EachIs (fun u (b : V × NK) => L2.RelV b.1 u) us bs → Vals (bs.map (·.1)) us
  | _, _, .nil => .nil
  | _, _, .cons h t => by rw [List.map_cons]; exact .cons h (each_valsN t)
/-- sorted(d) -/
theorem cr_sortedN {P : Program} {w : World} {K : PySem.W.Frag} (hc : X.calm = true) (hu : X.A.units + 64 < cLine) (hP : X.prog = P := by rfl) (hw : X.w = w := by rfl) (hK : X.K = K := by rfl) : CallR X (.builtin "sorted") (fun xs H Q => ∃ (a : Addr) (kvs : List (NK × V)), xs = [.ref a] ∧ DNr P w K H a kvs ∧ SortOk (kvs.map (·.1.data)) ∧
    ∀ (bs : List (V × NK)) p, bs.map (·.2) = kvs.map (·.1) → (∀ b ∈ bs, KeyAt K H b.1 b.2) → H p = none → Q (.ref p) (upd H p (.lst ((bs.mergeSort (PySem.W.dataLe false fun b => b.2.data)).map (·.1))))) := by
  subst hP hw hK
  rintro pins s σ H vs us Q I r ⟨a, kvs, rfl, d, ok, q⟩
  rw [Vals.ref1 r]
  obtain ⟨xs, rel, ⟨o, es, ep, h1, h2, h3, h4, h5, h6⟩, hz, hd⟩ := dn_of I d
  have hsz : es.size = xs.length := by rw [← Array.length_toList, h4, List.length_map]
  have hl2 : kvs.length = xs.length := kn_len rel
  have hraw : s.heap.DictRaw a es ep := ⟨o, h1, h2, h3⟩
  refine Calls.call_function_entry kind_sorted plain_sorted entry_sorted (args_sorted1 _) ?_
  unfold Builtin.«sorted»
  refine wpAny_bind (m := checkCount "sorted" 1 1 _) (wpAny_pure ?_)
  refine wpAny_bind (PySem.W.kdu_collect (A := X.A.in1) (KdlSrc.rawDict (es := es) (ep := ep) hd) (I.ok.hd hc) hraw (by omega) fun h' tk acc hk hacc => ?_)
  have hacL : acc.toList = xs.map fun x => Value.ref x.2.1 := by
    refine List.ext_getElem? fun j => ?_
    rw [Array.getElem?_toList, List.getElem?_map]
    by_cases hj : j < xs.length
    · have hja : j < acc.size := by rw [hacc.1]; omega
      obtain ⟨hi, hv⟩ := hacc.2 j acc[j] (by rw [Array.getElem?_eq_getElem hja])
      have e1 : es[j]? = some (entryOfKey (nestedKind X.prog X.w) xs[j]) := by rw [← Array.getElem?_toList, h4, List.getElem?_map, List.getElem?_eq_getElem hj]; rfl
      rw [Array.getElem?_eq_getElem hi] at e1
      rw [Array.getElem?_eq_getElem hja, hv, List.getElem?_eq_getElem hj, Option.some.inj e1]
      rfl
    · rw [List.getElem?_eq_none (by omega), Array.getElem?_eq_none (by rw [hacc.1]; omega)]
      rfl
  have hl : acc.toList.length = es.size := by rw [Array.length_toList]; exact hacc.1
  refine wpAny_bind (wpAny_newList ?_ (by rw [hl]; omega))
  have bsn : (xs.map fun x => ((V.ref x.2.1, x.1) : V × NK)).map (·.2) = kvs.map (·.1) := by
    rw [List.map_map]
    have : ∀ {l : List (NK × V)} {m : List (NK × Addr × Value)}, KN X.K H l m → m.map (fun x => x.1) = l.map (·.1) := by
      intro l m r
      unfold KN at r
      induction r with
      | nil => rfl
      | cons h t ih => rw [List.map_cons, List.map_cons, ih, h.1]
    exact this rel
  have bsk : ∀ b ∈ xs.map (fun x => ((V.ref x.2.1, x.1) : V × NK)), KeyAt X.K H b.1 b.2 := by
    have : ∀ {l : List (NK × V)} {m : List (NK × Addr × Value)}, KN X.K H l m → ∀ b ∈ m.map (fun x => ((V.ref x.2.1, x.1) : V × NK)), KeyAt X.K H b.1 b.2 := by
      intro l m r
      unfold KN at r
      induction r with
      | nil => intro b hb; exact nomatch hb
      | @cons p q ps qs h t ih =>
        intro b hb
        rw [List.map_cons] at hb
        rcases List.mem_cons.mp hb with e | hb
        · rw [e, ← h.1]; exact h.2.1
        · exact ih b hb
    exact this rel
  generalize hbs : (xs.map fun x => ((V.ref x.2.1, x.1) : V × NK)) = bs at bsn bsk
  have hbl : bs.length = xs.length := by rw [← hbs, List.length_map]
  have evl : PySem.W.EachIs (fun u (b : V × NK) => L2.RelV b.1 u) acc.toList bs := by
    rw [hacL, ← hbs]
    exact each_xs xs
  have erd : PySem.W.EachIs (fun u (b : V × NK) => ∃ as, Reads (h'.push { cls := .type "list", data := .seq acc.toList.toArray }) u b.2.data as ∧ h'.objs.size ∉ as) acc.toList bs := by
    refine each_and evl fun u b hb ru => ?_
    obtain ⟨as, r1⟩ := Dp.reads I b.2.data b.1 u (bsk b hb).dp ru
    refine ⟨as, PyProof.Rows.Reads.keeps (fun c ob e => Heap.get?_push_of_some _ (hk c ob e)) r1, fun hm => ?_⟩
    obtain ⟨ob, e⟩ := PyProof.On.reads_mem_get r1 _ hm
    exact absurd (Heap.lt_size (hk _ _ e)) (Nat.lt_irrefl _)
  refine wpAny_bind (wpAny_holding (wpAny_mono (PySem.W.list_sort_data (A := X.A.in1) (s := { s with heap := h'.push { cls := .type "list", data := .seq acc.toList.toArray }, toks := tk }) (enc := fun b : V × NK => b.2.data) (n := 0) (Q := fun _ s' => EP X pins σ Q (.ref h'.objs.size) s') (E := fun e s' => X.xe e s') ?_ evl erd ?_ ?_ ?_ ?_ ?_) (fun _ s' x => ?_) fun _ _ e => e))
  · exact Heap.get?_push_size _ rfl
  · rw [show (bs.map fun b : V × NK => b.2.data) = (kvs.map (·.1)).map NestedKey.data from by rw [← bsn, List.map_map]; rfl, List.map_map]
    exact ok.al
  · rw [show (bs.map fun b : V × NK => b.2.data) = (kvs.map (·.1)).map NestedKey.data from by rw [← bsn, List.map_map]; rfl, List.map_map]
    exact ok.so
  · omega
  · intro b hb
    have hm : b.2 ∈ kvs.map (·.1) := by rw [← bsn]; exact List.mem_map.mpr ⟨b, hb, rfl⟩
    have := ok.dep b.2.data (by obtain ⟨p, hp, e⟩ := List.mem_map.mp hm; exact List.mem_map.mpr ⟨p, hp, by show p.1.data = b.2.data; rw [e]⟩)
    rw [Around.in1_units]
    omega
  · intro out hlen ho
    have hob : (h'.push { cls := .type "list", data := .seq acc.toList.toArray }).get? h'.objs.size = some (PyProof.Rows.seqObj "list" acc.toList.toArray 0) := Heap.get?_push_size _ rfl
    obtain ⟨ep', he'⟩ := PyProof.Rows.sortedHeap_at (vs := acc.toList) (out := out.toArray) hob
    have I2 : Inv X pins σ H { s with heap := h', toks := tk } := I.kept (t' := tk) hk
    have hv : Vals ((bs.mergeSort (PySem.W.dataLe false fun b => b.2.data)).map (·.1)) out := each_valsN ho
    have hlen' : ((bs.mergeSort (PySem.W.dataLe false fun b => b.2.data)).map (·.1)).length ≤ sizeLine := by rw [List.length_map, List.length_mergeSort]; omega
    refine ⟨.ref _, upd H h'.objs.size (.lst ((bs.mergeSort (PySem.W.dataLe false fun b => b.2.data)).map (·.1))), I2.laid (t' := tk) (fun b u e => ?_) (Nat.le_refl _) ⟨hlen', out, ep', hv, he'⟩, rfl, q bs _ bsn bsk (I2.hok.fresh (Nat.le_refl _))⟩
    have e2 := Heap.get?_push_of_some ({ cls := .type "list", data := .seq acc.toList.toArray } : Obj) e
    have e3 : b < h'.objs.size := Heap.lt_size e
    rw [PyProof.Rows.sortedHeap_old (Nat.ne_of_lt e3) (Heap.lt_size e2)]
    exact e2
  · exact wpAny_pure ⟨_, rfl, x⟩
end
end My

/-! dict comprehensions whose keys are tuples -/
namespace My
open PySem PySem.Spec PyProof.Rows L2
section
variable {X : Cx}
/-- an item stored by a comprehension -/
theorem dn_store {pins : List (Addr × Obj)} {σ : L2.St} {H : Hp} {s : Shared} {Er : Value → Shared → Prop} {D : Addr} {kvs : List (NK × V)} {k : NK} {y v : V} {u r : Value} {G : Unit → Shared → Prop} (hu : X.A.units + 64 < cLine) (I : Inv X pins σ H s)
    (d : DN X.prog X.w X.K H D kvs) (hk : KeyAt X.K H y k) (ry : L2.RelV y u) (rv : L2.RelV v r) (small : kvs.length < sizeLine)
    (go : ∀ s' o, Inv X pins σ (upd H D o) s' → DN X.prog X.w X.K (upd H D o) D (putK kvs k v) → G () s') : wpAny (model X.prog X.w) X.A (dictSet D u r) G Er s := by
  obtain ⟨b, rfl⟩ := hk.rf
  cases ry
  obtain ⟨xs, rel, dd, _, nm⟩ := dn_of I d.rd
  obtain ⟨φ, at_⟩ := d.there
  have same := kn_len rel
  refine wpAny_dictSet_heap (hsz := by omega) (room_n0 hu) (key_is I hk) dd fun h2 dd2 but => ?_
  obtain ⟨ob, es, ep, o1, o2, o3, o4, _, o5⟩ := dd2
  have raw : rawN X.prog X.w D (storedH xs k b r) h2 := ⟨ob, es, ep, o1, o2, o3, o4, o5⟩
  refine go _ _ (d_write I (by rw [at_]; exact True.intro) but ⟨ob, o1⟩ (dnO_ok _ _ raw)) ⟨_, upd_same, (rel.put k hk rv).ts d.ts_at, ?_, nm⟩
  have := length_putK kvs k v
  omega
/-- {k: v for target in iter if ..}, keys that are tuples: D the new dict -/
def tDcN (P : Program) (w : World) (K : PySem.W.Frag) (wi : TI) (g : TG) (tt : TT) (tk tv : TE) (vs : List Nat) : TE := fun σ H Q => wi σ H fun J H1 => ∀ D u0, H1 D = none → DN P w K (upd H1 D u0) D [] →
  ∃ W : Nat → Nat → Hp → Prop, (∃ m, W 0 m (upd H1 D u0)) ∧ ∀ i m H, W i m H →
    (J.stop i H ∧ Q (.ref D) H) ∨ (J.go i H ∧ ∃ Nx : Hp → Prop, (∀ H', Nx H' → ∃ m', m' < m ∧ W (i + 1) m' H') ∧ ∀ x H', J.yld i H x H' → g x (wipe σ vs) H' fun σ2 H2 => wipe σ2 vs = wipe σ vs ∧ tt σ2 H2 fun b H3 =>
      if b = true then tk σ2 H3 fun y H4 => tv σ2 H4 fun z H5 => ∃ kvs k, DN P w K H5 D kvs ∧ KeyAt K H5 y k ∧ kvs.length < sizeLine ∧ ∀ u, DN P w K (upd H5 D u) D (putK kvs k z) → Nx (upd H5 D u) else Nx H3)
theorem pe_dcN {P : Program} {w : World} {K : PySem.W.Frag} {kx vx tg iter : Expr} {ifs : List Expr} {scope : Scope} {own : List (Str × Nat)} {pos : Pos} {wi : TI} {g : TG} {tt : TT} {tk tv : TE} (hc : X.calm = true) (hN : X.N.Nodup) (hi : PI X tg iter wi) (ok : BlkOk X.N X.env.scope scope own)
    (hg : ∀ (s : Shared) (H : Hp) (C : Addr) (cl : List (Str × Addr)) (fp : List Addr), PG (X.blk s H scope (compEnvC scope cl C X.env) fp) tg g) (ht : ∀ (s : Shared) (H : Hp) (C : Addr) (cl : List (Str × Addr)) (fp : List Addr), PTs (X.blk s H scope (compEnvC scope cl C X.env) fp) ifs tt)
    (hk : ∀ (s : Shared) (H : Hp) (C : Addr) (cl : List (Str × Addr)) (fp : List Addr), PE (X.blk s H scope (compEnvC scope cl C X.env) fp) kx tk)
    (he : ∀ (s : Shared) (H : Hp) (C : Addr) (cl : List (Str × Addr)) (fp : List Addr), PE (X.blk s H scope (compEnvC scope cl C X.env) fp) vx tv) (hu : X.A.units + 64 < cLine)
    (hP : X.prog = P := by rfl) (hw : X.w = w := by rfl) (hK : X.K = K := by rfl) (hs : ∀ x, foldedSetIterable iter X.env x = pure x := by intro _; rfl) :
    PE X (.DictComp kx vx [⟨tg, iter, ifs, 0⟩] scope pos) (tDcN P w K wi g tt tk tv (own.map (·.2))) := by
  subst hP hw hK
  refine ⟨fun pins s σ H Q I h => ?_⟩
  rw [arm_eval_DictComp]
  -- names that come from around are there
  have cells : ∀ y ∈ scope.names, y.2 = .free → ∃ c, X.env.cells.lookup y.1 = some c := fun y hy fr => by
    rcases ok.free y hy fr with q | q
    · exact I.ok.has _ (.inl q)
    · exact I.ok.has _ (.inr q)
  refine wpAny_comprehension_free (use := none) rfl hs (closure_ok cells) ok.kind (fun y hy fr => by rw [ok.uniq y hy, fr])
    (thn (hi.run pins s σ H _ I h) fun xv s1 hx => thn hx fun itv s2 got => ?_)
  obtain ⟨it, fp, tn, J, H2, ei, I2, T, st2, far, q⟩ := got
  subst ei
  refine wpAny_newObj_type (newEnv_comp ?_)
  obtain ⟨I3, d3⟩ := dn_laid (tk := s2.toks) I2
  have Dn := I2.hok.fresh (Nat.le_refl s2.heap.objs.size)
  obtain ⟨W, ⟨m0, w0⟩, turn⟩ := q s2.heap.objs.size _ Dn d3
  have heap3 : ({ s2 with heap := s2.heap.push { cls := .type "dict", data := .dict #[] } } : Shared).heap = s2.heap.push { cls := .type "dict", data := .dict #[] } := rfl
  generalize hs3 : ({ s2 with heap := s2.heap.push { cls := .type "dict", data := .dict #[] } } : Shared) = s3 at I3 heap3
  generalize hD : s2.heap.objs.size = D at I3 d3 Dn w0 turn
  have low : ∀ b ∈ fp, b < s2.heap.objs.size := fun b hb => by
    obtain ⟨o, there, _⟩ := T.obj _ _ st2 b hb
    exact Heap.lt_size there
  have far3 : ∀ b ∈ fp, FpOk X pins (upd H2 D (dnO X.prog X.w D [])) b ∧ b < s3.heap.objs.size := fun b hb => by
    have lt := low b hb
    refine ⟨⟨?_, (far b hb).2⟩, by rw [heap3, Heap.size_push]; exact Nat.lt_succ_of_lt lt⟩
    rw [upd_ne (by rw [← hD]; exact Nat.ne_of_lt lt)]
    exact (far b hb).1
  have st3 : tn 0 s3.heap := T.keep _ _ _ st2 fun b _ o there => by rw [heap3]; exact Heap.get?_push_of_some _ there
  have I4 := block_start I3 ok hN far3
  have pg := hg s3 (upd H2 D (dnO X.prog X.w D [])) s3.heap.objs.size (cellsFrom (s3.heap.objs.size + 1) scope.names (cloFrom X.env.cells scope.names [])) fp
  have pt := ht s3 (upd H2 D (dnO X.prog X.w D [])) s3.heap.objs.size (cellsFrom (s3.heap.objs.size + 1) scope.names (cloFrom X.env.cells scope.names [])) fp
  have pk := hk s3 (upd H2 D (dnO X.prog X.w D [])) s3.heap.objs.size (cellsFrom (s3.heap.objs.size + 1) scope.names (cloFrom X.env.cells scope.names [])) fp
  have pe := he s3 (upd H2 D (dnO X.prog X.w D [])) s3.heap.objs.size (cellsFrom (s3.heap.objs.size + 1) scope.names (cloFrom X.env.cells scope.names [])) fp
  show codeAny _ _ (.compStart (.DictComp kx vx [⟨tg, iter, ifs, 0⟩] scope pos) 0 (.ref it) (.ref D) (compEnvC scope (cellsFrom (s3.heap.objs.size + 1) scope.names (cloFrom X.env.cells scope.names [])) s3.heap.objs.size X.env)) (compPost (model X.prog X.w) X.A X.xe none (EP X pins σ Q) (.ref D) s3.heap.objs.size) { s3 with heap := pushCells (s3.heap.push { cls := .type "dict", data := .dict #[] }) scope.names }
  have gone : ∀ b ∈ fp, (upd H2 D (dnO X.prog X.w D [])) b = none := fun b hb => (far3 b hb).1.1
  generalize hce : compEnvC scope (cellsFrom (s3.heap.objs.size + 1) scope.names (cloFrom X.env.cells scope.names [])) s3.heap.objs.size X.env = ce at I4 pg pt pk pe ⊢
  have atC : ce.locals = s3.heap.objs.size := by subst hce; rfl
  generalize hB : ({ s3 with heap := pushCells (s3.heap.push { cls := .type "dict", data := .dict #[] }) scope.names } : Shared) = sB at I4 ⊢
  have stB : tn 0 sB.heap := T.keep _ _ _ st3 fun b _ o there => by rw [← hB]; exact pushCells_keeps _ _ _ _ (Heap.get?_push_of_some _ there)
  generalize dnO X.prog X.w D [] = u0 at I3 d3 w0 far3 I4 pg pt pk pe gone
  -- what the walk asks of its own objects, within the block
  have held : ∀ {σ' : L2.St} {H' : Hp} {s' : Shared}, Inv (X.blk s3 (upd H2 D u0) scope ce fp) [] σ' H' s' → (∀ b ∈ fp, H' b = none) → ∀ b ∈ fp, FpOk (X.blk s3 (upd H2 D u0) scope ce fp) [] H' b := fun {σ' H' s'} J' non b hb =>
    ⟨non b hb, (J'.ok.exf b hb).1, J'.ok.exfs b hb, .inl hb, fun x c fr => (J'.ok.exf b hb).2 x c fr, fun p hp => absurd (show p ∈ ([] : List (Addr × Obj)) ++ [] from hp) (by simp)⟩
  have loop : codeAny (model X.prog X.w) X.A (.compLoop (.DictComp kx vx [⟨tg, iter, ifs, 0⟩] scope pos) 0 (.ref it) (.ref D) ce) (compPost (model X.prog X.w) X.A X.xe none (EP X pins σ Q) (.ref D) s3.heap.objs.size) sB := by
    refine compLoop_anyD (fun n s' => ∃ i H', Inv (X.blk s3 (upd H2 D u0) scope ce fp) [] (wipe σ (own.map (·.2))) H' s' ∧ tn i s'.heap ∧ (∀ b ∈ fp, H' b = none) ∧ W i n H') ?_ m0 ⟨0, upd H2 D u0, I4, stB, gone, w0⟩
    rintro n s5 ⟨i, H5, I5, st5, non5, w5⟩
    rcases turn i n H5 w5 with ⟨stop, fin⟩ | ⟨goes, Nx, next, step⟩
    · have over := T.done (X.blk s3 (upd H2 D u0) scope ce fp) rfl rfl rfl hc i [] s5 _ H5 (fun _ _ => False) I5 (held I5 non5) st5 stop
      refine thnF over fun r s6 ⟨er, I6⟩ => ?_
      subst er
      have I7 : Inv X pins σ H5 s6 := I3.call' (ch := fp) I6.os I6.base I6.hok I6.bare fun b hb => ⟨(far3 b hb).1.2.2.2.1, (far3 b hb).1.2.1, (far3 b hb).1.2.2.2.2.1, (far3 b hb).1.2.2.2.2.2⟩
      have free : H5 s3.heap.objs.size = none := by
        have z : H5 ce.locals = none := I6.free
        rw [atC] at z
        exact z
      obtain ⟨m, names, _⟩ := I6.loc
      have names : s6.heap.Ns ce.locals m := names
      rw [atC] at names
      obtain ⟨p0, p1, p2, p3, p4, p5⟩ := I3.fpOk (Nat.le_refl _) free
      exact ⟨m, names, fun h2 sb => ⟨.ref D, H5, I7.turned (t' := s6.toks) (fun b o hb there => (sb.2 b hb).trans there) p0 p1 p3 p4 p5, rfl, fin⟩⟩
    · have itm := T.item (X.blk s3 (upd H2 D u0) scope ce fp) rfl rfl rfl hc i [] s5 _ H5 (fun _ _ => False) I5 (held I5 non5) st5 goes
      refine thnF itm fun r s6 ⟨u, er, h6⟩ => ?_
      subst er
      refine thnF h6 fun _ s7 ⟨x, H7, I7, r7, y7, st7, non7⟩ => ?_
      have I8 := I7.pinned (held I7 non7) (T.obj _ _ st7)
      refine thnF (pg.run _ s7 _ H7 x u _ I8 r7 (step x H7 y7)) fun _ s8 ⟨σ8, H8, I9, back8, q8⟩ => ?_
      refine thnF (pt.run _ s8 σ8 H8 _ I9 q8) fun b s9 ⟨H9, I10, q9⟩ => ?_
      have close : ∀ {s' : Shared} {H' : Hp}, Inv (X.blk s3 (upd H2 D u0) scope ce fp) ([] ++ pinsAt fp s7.heap) σ8 H' s' → Nx H' → ∃ m, m < n ∧ ∃ i H', Inv (X.blk s3 (upd H2 D u0) scope ce fp) [] (wipe σ (own.map (·.2))) H' s' ∧ tn i s'.heap ∧ (∀ b ∈ fp, H' b = none) ∧ W i m H' := fun {s' H'} J' nx => by
        obtain ⟨m', less, w'⟩ := next H' nx
        have pinned : ∀ b ∈ fp, ∀ o, s7.heap.get? b = some o → s'.heap.get? b = some o ∧ H' b = none := fun b hb o there =>
          let z := J'.pin (b, o) (List.mem_append_right _ (List.mem_append_right _ (mem_pinsAt hb there)))
          ⟨z.1, z.2.1⟩
        have long : (wipe σ (own.map (·.2))).length = σ8.length := by rw [← back8, wipe_length]
        refine ⟨m', less, i + 1, H', (J'.unpinned (pins := [])).weak long (fun j v e => ?_), T.keep _ _ _ st7 fun b hb o there => (pinned b hb o there).1, fun b hb => ?_, w'⟩
        · rw [← back8] at e
          exact (wipe_some e).1
        · obtain ⟨o, there, _⟩ := T.obj _ _ st7 b hb
          exact (pinned b hb o there).2
      cases b with
      | false =>
        simp only [Bool.false_eq_true, if_false] at q9 ⊢
        exact close I10 q9
      | true =>
        simp only [if_true] at q9 ⊢
        refine thnF (pk.run _ s9 σ8 H9 _ I10 q9) fun z s10 ⟨yk, H10, I11, r10, q10⟩ => ?_
        refine thnF (pe.run _ s10 σ8 H10 _ I11 q10) fun z2 s11 ⟨yv, H11, I12, r11, kvs, k, d11, hk11, small, nx⟩ => ?_
        exact dn_store (X := X.blk s3 (upd H2 D u0) scope ce fp) hu I12 d11 hk11 r10 r11 small fun s12 o I13 d12 => close I13 (nx o d12)
  exact codeAny_compStart_dict loop (T.self X.A 0 _ _ _ stB loop)
end
section
variable {K : PySem.W.Frag} {P : Program} {w : World}
/-- a comprehension over a walk: Pv by the turn and the heap -/
theorem dcN_it {J : It} {n : Nat} {G : Hp → Prop} {Y : Nat → Hp → V → Hp → Prop} (wk : Walk J n G Y) {g : TG} {tt : TT} {tk tv : TE} {vs : List Nat} {σ : L2.St} {H1 : Hp} {D : Addr} {u0 : HO} {Qd : Hp → Prop} (Pv : Nat → Hp → Prop) (h0 : Pv 0 (upd H1 D u0)) (hG : ∀ i H, i ≤ n → Pv i H → G H)
    (hs : ∀ i x H H', i < n → Pv i H → Y i H x H' → g x (wipe σ vs) H' fun σ2 H2 => wipe σ2 vs = wipe σ vs ∧ tt σ2 H2 fun b H3 =>
      if b = true then tk σ2 H3 fun y H4 => tv σ2 H4 fun z H5 => ∃ kvs k, DN P w K H5 D kvs ∧ KeyAt K H5 y k ∧ kvs.length < sizeLine ∧ ∀ u, DN P w K (upd H5 D u) D (putK kvs k z) → Pv (i + 1) (upd H5 D u) else Pv (i + 1) H3) (hd : ∀ H, Pv n H → Qd H) :
    ∃ W : Nat → Nat → Hp → Prop, (∃ m, W 0 m (upd H1 D u0)) ∧ ∀ i m H, W i m H →
      (J.stop i H ∧ Qd H) ∨ (J.go i H ∧ ∃ Nx : Hp → Prop, (∀ H', Nx H' → ∃ m', m' < m ∧ W (i + 1) m' H') ∧ ∀ x H', J.yld i H x H' → g x (wipe σ vs) H' fun σ2 H2 => wipe σ2 vs = wipe σ vs ∧ tt σ2 H2 fun b H3 =>
        if b = true then tk σ2 H3 fun y H4 => tv σ2 H4 fun z H5 => ∃ kvs k, DN P w K H5 D kvs ∧ KeyAt K H5 y k ∧ kvs.length < sizeLine ∧ ∀ u, DN P w K (upd H5 D u) D (putK kvs k z) → Nx (upd H5 D u) else Nx H3) := by
  refine ⟨fun i m H => m = n - i ∧ i ≤ n ∧ Pv i H, ⟨n, by simp, Nat.zero_le _, h0⟩, fun i m H ⟨em, hi, p⟩ => ?_⟩
  have q := hG i H hi p
  by_cases hlt : i < n
  · exact .inr ⟨wk.goes i H hlt q, Pv (i + 1), fun H' p' => ⟨n - (i + 1), by omega, rfl, hlt, p'⟩, fun x H' y => hs i x H H' hlt p (wk.yields i H x H' hlt q y)⟩
  · obtain rfl : i = n := by omega
    exact .inl ⟨wk.stops H q, hd H p⟩
theorem op_eqDK2 {X : Cx} (hu : X.A.units + 64 < cLine) (hK : X.K = K := by rfl) : OpR X (compareOp .Eq) (rEqD K) := by
  subst hK
  exact op_eqD hu
theorem op_neDK2 {X : Cx} (hu : X.A.units + 64 < cLine) (hK : X.K = K := by rfl) : OpR X (compareOp .NotEq) (rNeD K) := by
  subst hK
  exact op_neD hu
theorem op_inDK {X : Cx} (hu : X.A.units + 65 < cLine) (hK : X.K = K := by rfl) : OpR X (compareOp .In) (rInD K) := by
  subst hK
  exact op_inD hu
/-- len(d) -/
def rLenN (P : Program) (w : World) (K : PySem.W.Frag) : List V → Hp → VK → Prop := fun xs H Q => ∃ (a : Addr) (kvs : List (NK × V)), xs = [.ref a] ∧ DNr P w K H a kvs ∧ Q (.int ((kvs.length : Nat) : Int)) H
theorem call_lenN {X : Cx} (hP : X.prog = P := by rfl) (hw : X.w = w := by rfl) (hK : X.K = K := by rfl) : CallR X (.builtin "len") (rLenN P w K) := by
  subst hP hw hK
  rintro pins s σ H xs us Q I r ⟨a, kvs, rfl, d, q⟩
  rw [Vals.ref1 r]
  obtain ⟨ys, rel, dd, hz, ns⟩ := dn_of I d
  have hl := kn_len rel
  rw [sizeLine_eq] at hz
  refine call_len_dictH ns dd (by omega) ?_
  rw [← hl]
  exact ⟨.int ((kvs.length : Nat) : Int), H, I.tok _, ⟨_, rfl⟩, q⟩
/-- truth of a dict -/
theorem tru_dn {X : Cx} (hP : X.prog = P := by rfl) (hw : X.w = w := by rfl) (hK : X.K = K := by rfl) : TruR X (fun x H Q => ∃ a kvs, x = .ref a ∧ DNr P w K H a kvs ∧ Q (!kvs.isEmpty) H) := by
  subst hP hw hK
  rintro pins s σ H x v Q I rx ⟨a, kvs, rfl, d, q⟩
  cases rx
  obtain ⟨xs, rel, dd, hz, ns⟩ := dn_of I d
  have hl := kn_len rel
  rw [sizeLine_eq] at hz
  have ne : ((xs.length : Int) != 0) = !kvs.isEmpty := by cases rel <;> simp <;> omega
  have key : wpAny (model X.prog X.w) X.A (runValue (.builtin "len" ⟨[.ref a], []⟩)) (fun r s' => r = .int xs.length (s.toks + 1) ∧ ∃ H', Inv X pins σ H' s' ∧ Q (!kvs.isEmpty) H') X.xe s := by
    refine wpAny_runValue (codeAny_builtin entry_len ?_)
    rw [Around.under_plainId plain_len _]
    exact wpAny_mono (wpAny_len_body_dictH (Q := fun r s' => r = .int xs.length (s.toks + 1) ∧ ∃ H', Inv X pins σ H' s' ∧ Q (!kvs.isEmpty) H') ns dd (by omega) ⟨rfl, H, I.tok _, q⟩) (fun fin s' h' => by obtain ⟨r, rfl, hq⟩ := h'; exact hq) fun _ _ e => e
  unfold truthy
  first
    | refine wpAny_bind (wpAny_callSpecial?_none (name := Str.ofString "__bool__") dd.typeIs noBool_dict ?_)
    | refine wpAny_bind (wpAny_pure (wpAny_bind (wpAny_callSpecial?_none (name := Str.ofString "__bool__") dd.typeIs noBool_dict ?_)))
  refine wpAny_bind (wpAny_specialOf (name := Str.ofString "__len__") dd.typeIs F.slot_dict_len.lookup ?_)
  exact wpAny_bind (wpAny_mono key (fun r s' h' => by
    obtain ⟨rfl, H', I', hq⟩ := h'
    exact wpAny_pure (ne ▸ ⟨H', I', hq⟩)) fun _ _ e => e)
end
end My

/-! (v,) * k for great k -/
namespace My
open PySem PySem.Spec PyProof.Rows L2
theorem rep_flat1 {α : Type} (v : α) : ∀ n : Nat, (List.replicate n [v]).flatten = List.replicate n v
  | 0 => rfl
  | n + 1 => by rw [List.replicate_succ, List.flatten_cons, rep_flat1 v n, List.replicate_succ]; rfl
def rRepW (K : PySem.W.Frag) : R2 := fun x y H Q => ∃ (a : Addr) (n : Nat) (z : V), x = .ref a ∧ y = .int (n : Int) ∧ SqT K H a [z] ∧ 2 ≤ n ∧ n ≤ 9000 ∧
  ∀ b, H b = none → Q (.ref b) (upd H b (.tup (List.replicate n z)))
set_option maxHeartbeats 4000000 in
theorem op_repW {X : Cx} : OpR X (binaryOp .Mult) (rRepW X.K) := by
  intro pins st σ H x y v u Q I rx ry want
  obtain ⟨a, n, z, rfl, rfl, seq, low, most, q⟩ := want
  cases rx
  obtain ⟨tk, rfl⟩ := ry
  obtain ⟨vals, rel, ⟨⟨cl, dict, data, slots⟩, found, isT, m, isS⟩, small⟩ := I.tuple seq
  simp only at isT isS
  subst isT isS
  obtain ⟨it, rfl⟩ : ∃ it, vals = [it] := by
    have := rel.length
    match vals, this with
    | [it], _ => exact ⟨it, rfl⟩
  have line := sizeLine_eq
  have one : ([it].toArray.size : Nat) = 1 := rfl
  have flatLen : (List.replicate n [it]).flatten.length = n := by rw [rep_flat1, List.length_replicate]
  have flatNat : (n : Int).toNat = n := by omega
  have many : (List.foldl (fun x1 x2 => x1 ++ x2) #[] (List.replicate (n : Int).toNat [it].toArray)).size ≤ sizeLine := by
    rw [size_rep, List.size_toArray, flatNat, flatLen, line]
    omega
  have bound0 : (decide ((n : Int) < -(2 ^ 63)) || decide ((n : Int) ≥ 2 ^ 63)) = false := by
    rw [decide_eq_false (by omega), decide_eq_false (by omega)]
    rfl
  have bound1 : ([it].toArray.isEmpty || (n : Int) == 1) = false := by
    rw [show [it].toArray.isEmpty = false from rfl, Bool.false_or, beq_eq_false_iff_ne]
    omega
  have bound2 : (decide ((n : Int) ≤ 0) || [it].toArray.isEmpty) = false := by
    rw [show [it].toArray.isEmpty = false from rfl, decide_eq_false (by omega)]
    rfl
  have bound3 : ¬ (([it].toArray.size : Nat) : Int) * (n : Int) > (2 ^ 63 - 1) / 8 := by
    rw [one]
    omega
  have bound4 : Builtin.Tuple.tupleTooMany ((([it].toArray.size : Nat) : Int) * (n : Int)) = false := by
    unfold Builtin.Tuple.tupleTooMany
    rw [line, one, decide_eq_false (by omega)]
  have mulled := tuple_mulW a [it].toArray m dict slots (n : Int) tk bound0 bound1 bound2 bound3 bound4 many
  refine wpAny_binaryOp_repeat_ref (T := "tuple") (U := "int") (by decide) ⟨_, found, rfl⟩ (fun s2 => typeIs_int s2 (n : Int) tk)
    noFill_tuple_mul F.fills_int_mul F.slot_int_rmul
    repeat_tuple F.slot_int_index.lookup ?_
  refine call_meets F.slot_int_rmul (typeIs_int st (n : Int) tk) F.entry_int_rmul (F.args_int_rmul_2 _ _)
    (int_rmul_tuple (n : Int) tk a [it].toArray m dict slots) ⟨found, rfl, ⟨_, found, rfl⟩, ?_⟩
  refine call_meets F.slot_tuple_mul ⟨_, found, rfl⟩ F.entry_tuple_mul
    (F.args_tuple_mul_2 _ _) mulled ⟨found, ?_⟩
  rw [size_rep, flatNat, rep_flat1]
  refine ⟨.ref st.heap.objs.size, _, I.laid (t' := st.toks) (o := .tup (List.replicate n z)) (fun b ob q => Heap.get?_push_of_some _ q)
    (Nat.le_refl _) ?_, rfl, q _ (I.hok.fresh (Nat.le_refl _))⟩
  refine ⟨by rw [List.length_replicate, line]; omega, List.replicate n it, ?_, IsTup.new _ _⟩
  have r1 := rel.rep n
  rw [rep_flat1, rep_flat1] at r1
  exact r1
end My

/-! (v,) * k, k from 1 on -/
namespace My
open PySem PySem.Spec PyProof.Rows L2
set_option maxHeartbeats 4000000 in
theorem mul_one (a : Addr) (items : Array Value) (m : Nat) (dict : Option Addr) (slots : Array (Option Value)) (u : Tok) :
    Meets (Builtin.«tuple.__mul__» ⟨[.ref a, .int 1 u], []⟩) (fun _ R s => s.heap.get? a = some { cls := .type "tuple", dict := dict, data := .seq items m, slots := slots } ∧
      R (.ok (.ret (.ref a))) s) :=
  .of_wp fun prog w A R s h => by
    obtain ⟨hp, g, d, tk, os⟩ := s
    obtain ⟨at0, h⟩ := h
    have f1 := AutoSeq1.idx_int
    wp_walk using wpAny_loadPart' at0
    exact ⟨_, rfl, h⟩
def rRepU (K : PySem.W.Frag) : R2 := fun x y H Q => ∃ (a : Addr) (n : Nat) (z : V), x = .ref a ∧ y = .int (n : Int) ∧ SqT K H a [z] ∧ 1 ≤ n ∧ n ≤ 9000 ∧
  ∀ b H', Same H H' → SqT K H' b (List.replicate n z) → Q (.ref b) H'
set_option maxHeartbeats 4000000 in
theorem op_repU {X : Cx} : OpR X (binaryOp .Mult) (rRepU X.K) := by
  intro pins st σ H x y v u Q I rx ry want
  obtain ⟨a, n, z, rfl, rfl, seq, low, most, q⟩ := want
  by_cases h1 : n = 1
  · subst h1
    cases rx
    obtain ⟨tk, rfl⟩ := ry
    obtain ⟨vals, rel, ⟨⟨cl, dict, data, slots⟩, found, isT, m, isS⟩, small⟩ := I.tuple seq
    simp only at isT isS
    subst isT isS
    refine wpAny_binaryOp_repeat_ref (T := "tuple") (U := "int") (by decide) ⟨_, found, rfl⟩ (fun s2 => typeIs_int s2 ((1 : Nat) : Int) tk)
      noFill_tuple_mul F.fills_int_mul F.slot_int_rmul
      repeat_tuple F.slot_int_index.lookup ?_
    refine call_meets F.slot_int_rmul (typeIs_int st ((1 : Nat) : Int) tk) F.entry_int_rmul (F.args_int_rmul_2 _ _)
      (int_rmul_tuple ((1 : Nat) : Int) tk a vals.toArray m dict slots) ⟨found, rfl, ⟨_, found, rfl⟩, ?_⟩
    refine call_meets F.slot_tuple_mul ⟨_, found, rfl⟩ F.entry_tuple_mul
      (F.args_tuple_mul_2 _ _) (mul_one a vals.toArray m dict slots tk) ⟨found, ?_⟩
    exact ⟨.ref a, H, I, rfl, q a H (Same.refl H) seq⟩
  · refine op_repW pins st σ H _ _ v u Q I rx ry ⟨a, n, z, rfl, rfl, seq, by omega, most, fun b hb => ?_⟩
    exact q b _ (same_new hb) (.inl (.inl upd_same))
end My

/-! t * k of any tuple and any small k -/
namespace My
open PySem PySem.Spec PyProof.Rows L2
theorem wp_yes {α : Type} {M : Model} {A : Around} {c : Prop} [Decidable c] {x y : Sem α} {Q : α → Shared → Prop} {E : Value → Shared → Prop} {s : Shared} (h : c) (k : wpAny M A x Q E s) : wpAny M A (if c then x else y) Q E s := by
  rw [if_pos h]
  exact k
theorem wp_no {α : Type} {M : Model} {A : Around} {c : Prop} [Decidable c] {x y : Sem α} {Q : α → Shared → Prop} {E : Value → Shared → Prop} {s : Shared} (h : ¬ c) (k : wpAny M A y Q E s) : wpAny M A (if c then x else y) Q E s := by
  rw [if_neg h]
  exact k
set_option maxHeartbeats 4000000 in
theorem mul_nil (a : Addr) (m : Nat) (dict : Option Addr) (slots : Array (Option Value)) (x : Int) (u : Tok) (c0 : (decide (x < -(2 ^ 63)) || decide (x ≥ 2 ^ 63)) = false) :
    Meets (Builtin.«tuple.__mul__» ⟨[.ref a, .int x u], []⟩) (fun _ R s => s.heap.get? a = some { cls := .type "tuple", dict := dict, data := .seq #[] m, slots := slots } ∧
      R (.ok (.ret (.ref a))) s) :=
  .of_wp fun prog w A R s h => by
    obtain ⟨hp, g, d, tk, os⟩ := s
    obtain ⟨at0, h⟩ := h
    have f1 := AutoSeq1.idx_int
    wp_walk using wpAny_loadPart' at0
    repeat first
      | (refine wpAny_ite_false (decide_eq_false (by rw [c0]; exact Bool.false_ne_true)) ?_; wp_walk using wpAny_loadPart' at0)
      | exact ⟨_, rfl, h⟩
set_option maxHeartbeats 4000000 in
theorem mul_zero (a : Addr) (items : Array Value) (m : Nat) (dict : Option Addr) (slots : Array (Option Value)) (u : Tok) (c1 : items.isEmpty = false) :
    Meets (Builtin.«tuple.__mul__» ⟨[.ref a, .int 0 u], []⟩) (fun _ R s => s.heap.get? a = some { cls := .type "tuple", dict := dict, data := .seq items m, slots := slots } ∧
      R (.ok (.ret (Value.ref s.heap.objs.size))) { s with heap := s.heap.push { cls := Value.type "tuple", data := Data.seq #[] }, toks := s.toks }) :=
  .of_wp fun prog w A R s h => by
    obtain ⟨hp, g, d, tk, os⟩ := s
    obtain ⟨at0, h⟩ := h
    have f1 := AutoSeq1.idx_int
    wp_walk using wpAny_loadPart' at0
    repeat first
      | (refine wpAny_ite_false (decide_eq_false (by rw [c1]; decide)) ?_; wp_walk using wpAny_loadPart' at0)
      | exact ⟨_, rfl, h⟩
def rRepA (K : PySem.W.Frag) : R2 := fun x y H Q => ∃ (a : Addr) (n : Nat) (xs : List V), x = .ref a ∧ y = .int (n : Int) ∧ SqT K H a xs ∧ n ≤ 1000 ∧ xs.length ≤ 1000 ∧
  ∀ b H', Same H H' → SqT K H' b (List.replicate n xs).flatten → Q (.ref b) H'
theorem flat_nil {α : Type} : ∀ n : Nat, (List.replicate n ([] : List α)).flatten = []
  | 0 => rfl
  | n + 1 => by rw [List.replicate_succ, List.flatten_cons, flat_nil n]; rfl
set_option maxHeartbeats 4000000 in
theorem op_repA {X : Cx} : OpR X (binaryOp .Mult) (rRepA X.K) := by
  intro pins st σ H x y v u Q I rx ry want
  obtain ⟨a, n, xs, rfl, rfl, seq, few, short, q⟩ := want
  by_cases big : xs ≠ [] ∧ 2 ≤ n
  · refine op_repT pins st σ H _ _ v u Q I rx ry ⟨a, (n : Int), xs, rfl, rfl, seq, big.1, by have := big.2; omega, by omega, short, fun b hb => ?_⟩
    have e : ((n : Int)).toNat = n := by omega
    rw [e]
    exact q b _ (same_new hb) (.inl (.inl upd_same))
  cases rx
  obtain ⟨tk, rfl⟩ := ry
  obtain ⟨vals, rel, ⟨⟨cl, dict, data, slots⟩, found, isT, m, isS⟩, small⟩ := I.tuple seq
  simp only at isT isS
  subst isT isS
  have bound : (decide ((n : Int) < -(2 ^ 63)) || decide ((n : Int) ≥ 2 ^ 63)) = false := by
    rw [decide_eq_false (by omega), decide_eq_false (by omega)]
    rfl
  refine wpAny_binaryOp_repeat_ref (T := "tuple") (U := "int") (by decide) ⟨_, found, rfl⟩ (fun s2 => typeIs_int s2 (n : Int) tk)
    noFill_tuple_mul F.fills_int_mul F.slot_int_rmul
    repeat_tuple F.slot_int_index.lookup ?_
  refine call_meets F.slot_int_rmul (typeIs_int st (n : Int) tk) F.entry_int_rmul (F.args_int_rmul_2 _ _)
    (int_rmul_tuple (n : Int) tk a vals.toArray m dict slots) ⟨found, rfl, ⟨_, found, rfl⟩, ?_⟩
  by_cases hx : xs = []
  · subst hx
    cases rel
    refine call_meets F.slot_tuple_mul ⟨_, found, rfl⟩ F.entry_tuple_mul (F.args_tuple_mul_2 _ _) (mul_nil a m dict slots (n : Int) tk bound) ⟨found, ?_⟩
    exact ⟨.ref a, H, I, rfl, q a H (Same.refl H) (by rw [flat_nil]; exact seq)⟩
  · have hn : n = 0 ∨ n = 1 := by
      rcases Nat.lt_or_ge n 2 with h | h
      · omega
      · exact absurd ⟨hx, h⟩ big
    rcases hn with rfl | rfl
    · have full : vals.toArray.isEmpty = false := by
        cases rel with
        | nil => exact absurd rfl hx
        | cons _ _ => rfl
      refine call_meets F.slot_tuple_mul ⟨_, found, rfl⟩ F.entry_tuple_mul (F.args_tuple_mul_2 _ _) (mul_zero a vals.toArray m dict slots tk full) ⟨found, ?_⟩
      refine ⟨.ref st.heap.objs.size, _, I.laid (t' := st.toks) (o := .tup []) (fun b ob q => Heap.get?_push_of_some _ q) (Nat.le_refl _) ?_, rfl, q _ _ (same_new (I.hok.fresh (Nat.le_refl _))) (.inl (.inl upd_same))⟩
      exact ⟨Nat.zero_le _, [], .nil, IsTup.new _ _⟩
    · refine call_meets F.slot_tuple_mul ⟨_, found, rfl⟩ F.entry_tuple_mul (F.args_tuple_mul_2 _ _) (mul_one a vals.toArray m dict slots tk) ⟨found, ?_⟩
      exact ⟨.ref a, H, I, rfl, q a H (Same.refl H) (by simpa using seq)⟩
end My

/-! (v,) * n, n from 0 on -/
namespace My
open PySem PySem.Spec PyProof.Rows L2
def rRepZ (K : PySem.W.Frag) : R2 := fun x y H Q => ∃ (a : Addr) (n : Nat) (z : V), x = .ref a ∧ y = .int (n : Int) ∧ SqT K H a [z] ∧ n ≤ 9000 ∧ ∀ b H', Same H H' → SqT K H' b (List.replicate n z) → Q (.ref b) H'
theorem op_repZK {X : Cx} {K : PySem.W.Frag} (hK : X.K = K := by rfl) : OpR X (binaryOp .Mult) (rRepZ K) := by
  subst hK
  intro pins st σ H x y v u Q I rx ry want
  obtain ⟨a, n, z, rfl, rfl, seq, most, q⟩ := want
  by_cases h0 : n = 0
  · subst h0
    exact op_repA pins st σ H _ _ v u Q I rx ry ⟨a, 0, [z], rfl, rfl, seq, by decide, by show 1 ≤ 1000; decide, fun b H' s h => q b H' s h⟩
  · exact op_repU pins st σ H _ _ v u Q I rx ry ⟨a, n, z, rfl, rfl, seq, by omega, most, q⟩
end My

/-! The end of a law with lambdas in several defs. -/
namespace My
open PySem PySem.Spec PyProof.Rows L2 LamX
theorem law_callGTs {Pr : Program} {w : World} {K : PySem.W.Frag} {mg mb : Str → Option Value} {k : Nat} {fa a : Addr} {cs : List (Addr × Addr)} {fd : FuncData} {x : Str} {sp : Sp} {s₁ : Shared} {vs : List Value} {ns : List Int}
    (inK : K.In s₁.heap) (glob : s₁.heap.Ns mainGlobals mg) (blt : s₁.heap.Ns builtinsNs mb) (boot : ∀ x : Str, x ≠ "__name__" → mb x = bootBuiltins x) (nolim : s₁.heap.NoLimit) (nogen : s₁.gens = #[])
    (hT : ∀ p ∈ cs, s₁.heap.get? p.2 = some (tabO #[])) (nT : ∀ p ∈ cs, K.lookup p.2 = none) (C : ∀ p ∈ cs, PySem.W.CodeHd s₁.heap p.1 p.2)
    (hbm : ∃ (bm : Addr) (ob : Obj), mg "__builtins__" = some (.ref bm) ∧ bm ≠ builtinsNs ∧ s₁.heap.get? bm = some ob ∧ ob.cls = .type "module" ∧ ob.dict = some builtinsNs ∧ ob.data = .plain)
    (hobj : s₁.heap.get? a = some { cls := .type "list", data := .seq vs.toArray }) (hints : IntsAre vs ns) (hlen : ns.length ≤ sizeLine) (room : Room k callerA)
    (F : ∀ base : Heap, K.In base → base.Ns mainGlobals mg → (∀ p ∈ cs, TabB base mg p.1 p.2) → FnG Pr w K mg base k fa fd [x] sp) (binds : ∀ (s : Shared) (u : Value), BindsTo s fd ⟨[u], []⟩ [(x, u)])
    (want : ∀ H : Hp, (∀ p ∈ cs, H p.2 = some (.tbl #[])) → SqL K H a (ns.map V.int) → sp [.ref a] H (fun v _ => v = .bl true) fun _ _ _ => False) :
    codeAny (model Pr w) callerA (.call (.ref fa) ⟨[.ref a], []⟩) (fun r s' => r = .ok (.ret (.bool true)) ∧ OldK s₁.heap s'.heap ∧ s'.os = s₁.os ∧ AllBare s'.gens) s₁ := by
  have relv := vals_ints hints
  have isT : ∀ b : Addr, b ∈ cs.map (·.2) → s₁.heap.get? b = some (tabO #[]) := fun b hb => by
    obtain ⟨p, hp, e⟩ := List.mem_map.mp hb
    exact e ▸ hT p hp
  have inT : ∀ p ∈ cs, p.2 ∈ cs.map (·.2) := fun p hp => List.mem_map_of_mem hp
  have noK : ∀ b : Addr, b ∈ cs.map (·.2) → K.lookup b = none := fun b hb => by
    obtain ⟨p, hp, e⟩ := List.mem_map.mp hb
    exact e ▸ nT p hp
  have naP : a ∉ cs.map (·.2) := fun z => by
    rw [isT a z] at hobj
    have z' : Data.fields #[] = Data.seq vs.toArray _ := congrArg Obj.data (Option.some.inj hobj)
    cases z'
  have core : ∀ H : Hp, (∀ p ∈ cs, H p.2 = some (.tbl #[])) → (∀ b, H b = none ∨ b ∈ cs.map (·.2) ∨ ∃ o xs, H b = some (.frz o (.lst xs))) → SqL K H a (ns.map V.int) → HOk Pr w H s₁.heap → (∀ b, H b ≠ none → b = a ∨ b ∈ cs.map (·.2)) → (H a ≠ none → K.lookup a = none) →
      codeAny (model Pr w) callerA (.call (.ref fa) ⟨[.ref a], []⟩) (fun r s' => r = .ok (.ret (.bool true)) ∧ OldK s₁.heap s'.heap ∧ s'.os = s₁.os ∧ AllBare s'.gens) s₁ := by
    intro H hP only seq ok one notK
    have up : ∀ {b : Addr} {o : Obj}, s₁.heap.get? b = some o → H b = none → (hidT s₁.heap H).get? b = some o := fun e n => hidT_get e n
    -- what is neither a list nor a table is not tracked
    have out : ∀ {b : Addr} {o : Obj}, s₁.heap.get? b = some o → (∀ vs n, o.data ≠ .seq vs n) → o.data ≠ .fields #[] → H b = none := by
      intro b o e h1 h2
      cases q : H b with
      | none => rfl
      | some u =>
        rcases one b (fun z => by rw [q] at z; cases z) with z | z
        · rw [z, hobj] at e
          cases e
          exact (h1 _ _ rfl).elim
        · rw [isT b z] at e
          cases e
          exact (h2 rfl).elim
    have outD : ∀ {b : Addr} {o : Obj} {es : Array DictEntry} {ep : Nat}, s₁.heap.get? b = some o → o.data = .dict es ep → H b = none := fun {b o es ep} e d =>
      out e (fun vs n z => by rw [d] at z; cases z) (fun z => by rw [d] at z; cases z)
    have nsUp : ∀ {b : Addr} {m : Str → Option Value}, s₁.heap.Ns b m → (hidT s₁.heap H).Ns b m :=
      fun {_ _} ⟨o, es, ep, e, d, r⟩ => ⟨o, es, ep, up e (outD e d), d, r⟩
    have kUp : K.In (hidT s₁.heap H) := by
      intro b o e
      refine up (inK b o e) ?_
      cases q : H b with
      | none => rfl
      | some u =>
        rcases one b (fun z => by rw [q] at z; cases z) with z | z
        · rw [z, notK (fun y => by rw [← z, q] at y; cases y)] at e
          cases e
        · rw [noK b z] at e
          cases e
    have mod : Mod K mg (hidT s₁.heap H) := ⟨kUp, nsUp glob, ⟨mb, nsUp blt, boot⟩, nolim.imp fun mc z => ⟨nsUp z.1, z.2⟩⟩
    have tb : ∀ p ∈ cs, TabB (hidT s₁.heap H) mg p.1 p.2 := by
      intro p hp
      have hTp := hT p hp
      refine ⟨?_, ?_, fun z => ?_⟩
      · obtain ⟨o, us, file, tf, flags, tg, inF, text, tt, e1, r1, r2, r3, r⟩ := C p hp
        refine ⟨o, us, file, tf, flags, tg, inF, text, tt, up e1 (out e1 (fun vs n z => ?_) fun z => ?_), r1, r2, r3, r⟩
        · rw [r2] at z
          cases z
        · rw [r2] at z
          cases z
          simp at r3
      · obtain ⟨bm, ob, b1, b2, b3, b4, b5, b6⟩ := hbm
        have nG : bm ≠ mainGlobals := fun q => by
          obtain ⟨o, es, ep, e, hd, _⟩ := glob
          rw [q, e] at b3
          cases b3
          rw [hd] at b6
          cases b6
        have nP : bm ≠ p.2 := fun q => by
          rw [q, hTp] at b3
          cases b3
          cases b6
        exact ⟨bm, ob, b1, b2, nG, nP, up b3 (out b3 (fun vs n z => by rw [b6] at z; cases z) fun z => by rw [b6] at z; cases z), b4, b5, b6⟩
      · obtain ⟨o, es, ep, e, hd, _⟩ := glob
        rw [z, hTp] at e
        cases e
        cases hd
    have env0 : Env0 Pr w K mg (hidT s₁.heap H) callerA [] s₁ H :=
      ⟨rfl, mod, fun b o e => of_hidT e, Nat.le_of_eq (hidT_size _ _), trivial, fun b hb => absurd (show b ∈ ([] : List Addr) from hb) (by simp), ok, .of_eq nogen⟩
    have call := (F _ kUp (nsUp glob) tb).go callerA [] s₁ H ⟨[.ref a], []⟩ [.ref a] [.ref a] _ _ rfl room env0 (binds s₁ (.ref a)) (.cons rfl .nil) (want H hP seq)
    refine codeAny_mono call fun r s' h => ?_
    match r, h with
    | .error e, h => exact (show False from h).elim
    | .ok (.ret u), h =>
      obtain ⟨v, H', os, bare, un, ok', rv, q⟩ := h
      obtain rfl : v = .bl true := q
      obtain rfl : u = Value.bool true := rv
      have stays : ∀ b o, b ∉ cs.map (·.2) → s₁.heap.get? b = some o → s'.heap.get? b = some o := fun b o nb e => by
        rcases only b with z | z | ⟨ob, xs, z⟩
        · exact un.keep b o e z (fun y => absurd (show b ∈ ([] : List Addr) from y) (by simp)) (by simp)
        · exact absurd z nb
        · obtain ⟨e1, _⟩ := ok b _ z
          obtain ⟨e2, _⟩ := ok' b _ (un.frzs b ob _ z)
          rw [e] at e1
          cases e1
          exact e2
      have grown : ∀ p ∈ cs, ∃ more : Array Value, s'.heap.get? p.2 = some (tabO more) := fun p hp => by
        obtain ⟨more, z⟩ := un.tbls p.2 #[] (hP p hp)
        exact ⟨_, ok' p.2 _ z⟩
      refine ⟨rfl, ⟨fun b o e => ?_, fun b o e => ?_⟩, os, bare⟩
      · by_cases hb : b ∈ cs.map (·.2)
        · obtain ⟨p, hp, rfl⟩ := List.mem_map.mp hb
          obtain ⟨more, hm⟩ := grown p hp
          rw [hT p hp] at e
          cases e
          exact .inr (.inl ⟨((C p hp).tab (hT p hp)).isCodeTable, rfl, #[], more, rfl, by rw [Array.empty_append]; exact hm⟩)
        · exact .inl (stays b o hb e)
      · by_cases hb : b ∈ cs.map (·.2)
        · obtain ⟨p, hp, rfl⟩ := List.mem_map.mp hb
          obtain ⟨more, hm⟩ := grown p hp
          exact ⟨_, hm⟩
        · exact ⟨o, stays b o hb e⟩
  let t0 : Hp := fun b => if b ∈ cs.map (·.2) then some (.tbl #[]) else none
  have t0P : ∀ {b}, b ∈ cs.map (·.2) → t0 b = some (.tbl #[]) := fun h => if_pos h
  have t0o : ∀ {b}, b ∉ cs.map (·.2) → t0 b = none := fun h => if_neg h
  cases hk : K.lookup a with
  | some o =>
    have e := inK a o hk
    rw [hobj] at e
    cases e
    have stands : SqL K t0 a (ns.map V.int) := .inr ⟨_, vs.toArray, _, hk, rfl, rfl, rfl, by rw [List.size_toArray, hints.length]; exact hlen, by simpa using relv⟩
    refine core t0 (fun p hp => t0P (inT p hp)) (fun b => ?_) stands (fun b u z => ?_) (fun b z => ?_) fun z => absurd (t0o naP) z
    · by_cases hb : b ∈ cs.map (·.2)
      · exact .inr (.inl hb)
      · exact .inl (t0o hb)
    · by_cases hb : b ∈ cs.map (·.2)
      · rw [t0P hb] at z
        cases z
        exact isT b hb
      · rw [t0o hb] at z
        cases z
    · by_cases hb : b ∈ cs.map (·.2)
      · exact .inr hb
      · exact absurd (t0o hb) z
  | none =>
    let o : Obj := { cls := .type "list", data := .seq vs.toArray }
    let H1 : Hp := fun b => if b = a then some (.frz o (.lst (ns.map V.int))) else t0 b
    have atA : H1 a = some (.frz o (.lst (ns.map V.int))) := if_pos rfl
    have ofA : ∀ {b}, b ≠ a → H1 b = t0 b := fun h => if_neg h
    refine core H1 (fun p hp => (ofA (fun e => naP (e ▸ inT p hp))).trans (t0P (inT p hp))) (fun b => ?_) (.inl (.inr ⟨o, atA⟩)) (fun b u z => ?_) (fun b z => ?_) fun _ => hk
    · by_cases hb : b = a
      · exact .inr (.inr ⟨_, _, by rw [hb]; exact atA⟩)
      · by_cases hb2 : b ∈ cs.map (·.2)
        · exact .inr (.inl hb2)
        · exact .inl ((ofA hb).trans (t0o hb2))
    · by_cases hb : b = a
      · rw [hb, atA] at z
        cases z
        rw [hb]
        exact ⟨hobj, by rw [List.length_map]; exact hlen, vs, _, relv, hobj⟩
      · rw [ofA hb] at z
        by_cases hb2 : b ∈ cs.map (·.2)
        · rw [t0P hb2] at z
          cases z
          exact isT b hb2
        · rw [t0o hb2] at z
          cases z
    · by_cases hb : b = a
      · exact .inl hb
      · by_cases hb2 : b ∈ cs.map (·.2)
        · exact .inr hb2
        · exact absurd ((ofA hb).trans (t0o hb2)) z
theorem walk_ofGTs {l : PySem.W.OpenLaw} {n k : Nat} {q : Program} {loose : List Str} {XP : (Str → Option Value) → Heap → Prop} {YP : World → Heap → Prop} {d : DefRec}
    {K : Params → PySem.W.Frag} {sp : PySem.W.Frag → List (Addr × Addr) → Sp} {NM : List Str} {x : Str}
    (hn : l.most = some n) (hn2 : n ≤ sizeLine) (hdf : d.params.defaults = []) (room : Room k callerA) (hrec : (NM.all fun nm => (recsOf q).any fun e => e.name == nm) = true)
    (hY : ∀ (w : World) (h : Heap), YP w h → (K w.params).In h)
    (F : ∀ (w : World) (mg : Str → Option Value) (fa : Addr) (h : Heap), (K w.params).In h → h.Ns mainGlobals mg → mg d.name = some (.ref fa) → (∀ nm ∈ NM, ∀ f, mg nm = some (.ref f) → OwnTab (K w.params) f h) →
      ∃ (fd : FuncData) (cs : List (Addr × Addr)), (∀ p ∈ cs, h.get? p.2 = some (tabO #[])) ∧ (∀ p ∈ cs, (K w.params).lookup p.2 = none) ∧ (∀ p ∈ cs, PySem.W.CodeHd h p.1 p.2) ∧ (∀ (s : Shared) (u : Value), BindsTo s fd ⟨[u], []⟩ [(x, u)]) ∧
        ∀ base : Heap, (K w.params).In base → base.Ns mainGlobals mg → (∀ p ∈ cs, TabB base mg p.1 p.2) → FnG l.prog w (K w.params) mg base k fa fd [x] (sp (K w.params) cs))
    (want : ∀ (K : PySem.W.Frag) (H : Hp) (a : Addr) (cs : List (Addr × Addr)) (ns : List Int), ns.length ≤ n → (∀ p ∈ cs, H p.2 = some (.tbl #[])) → SqL K H a (ns.map V.int) → sp K cs [.ref a] H (fun v _ => v = .bl true) fun _ _ _ => False) :
    PySem.W.WalkO q loose XP YP l.row.toRowW d [] (fun f vs => PySem.call f vs) := by
  refine Att.attach_callB hn hdf fun w s₀ s₁ mg mb fa o pm cd doc a vs ns G Y ho hd hcd hmg hobj hints hlen hbits hg => ?_
  have KX := hY w _ Y
  have own : ∀ nm ∈ NM, ∀ f, mg nm = some (.ref f) → OwnTab (K w.params) f s₁.heap := fun nm hnm f hf c P o1 fd1 e dd vs1 sl k1 k2 k3 k4 k5 => by
    obtain ⟨dL, hm, hn1⟩ := List.any_eq_true.mp (List.all_eq_true.mp hrec nm hnm)
    have hname : dL.name = nm := beq_iff_eq.mp hn1
    obtain ⟨a', o', fd', c', P', h1, h2, h3, h4, h5, h6⟩ := G.T.tab dL hm
    rw [hname, hf] at h1
    cases h1
    rw [KX _ _ k1] at h2
    cases h2
    rw [k2] at h3
    cases h3
    rw [k3] at h4
    cases h4
    obtain ⟨⟨oc, vc, e1, _, e3, e4⟩, hP⟩ := h6
    rw [KX _ _ k4] at e1
    cases e1
    cases e3
    rw [k5] at e4
    cases e4
    exact hP
  obtain ⟨fd, cs, hT, nT, C, hb, hF⟩ := F w mg fa _ KX G.T.g hmg own
  exact law_callGTs KX G.T.g G.T.b G.T.builtins G.T.nolimit hg hT nT C G.T.bmain hobj hints (Nat.le_trans hlen hn2) room hF hb fun H hH hS => want (K w.params) H a cs ns hlen hH hS
end My

/-! search by layers: the mathematics -/
namespace My
section
variable {α : Type} [DecidableEq α] (led : α → Nat → α) (m : Nat)
def inB (B : List (α × List Nat)) (t : α) : Bool := B.any fun p => decide (p.1 = t)
/-- one code from e, B known, F found in this round -/
def stC (B : List (α × List Nat)) (e : α × List Nat) (F : List (α × List Nat)) (k : Nat) : List (α × List Nat) :=
  if inB (B ++ F) (led e.1 k) = true then F else F ++ [(led e.1 k, e.2 ++ [k])]
def stE (B F : List (α × List Nat)) (e : α × List Nat) : List (α × List Nat) := (List.range m).foldl (stC led B e) F
def nxt (B L : List (α × List Nat)) : List (α × List Nat) := L.foldl (stE led m B) []
/-- what was known ahead of the round n, and the round's layer -/
def lyr (s : α) : Nat → List (α × List Nat) × List (α × List Nat)
  | 0 => ([], [(s, [])])
  | n + 1 => ((lyr s n).1 ++ (lyr s n).2, nxt led m ((lyr s n).1 ++ (lyr s n).2) (lyr s n).2)
end
section
variable {α : Type} [DecidableEq α] {led : α → Nat → α} {m : Nat}
theorem inB_iff {B : List (α × List Nat)} {t : α} : inB B t = true ↔ t ∈ B.map (·.1) := by
  unfold inB
  rw [List.any_eq_true, List.mem_map]
  constructor
  · rintro ⟨p, hp, e⟩; exact ⟨p, hp, of_decide_eq_true e⟩
  · rintro ⟨p, hp, e⟩; exact ⟨p, hp, decide_eq_true e⟩
theorem inB_no {B : List (α × List Nat)} {t : α} : inB B t = false ↔ t ∉ B.map (·.1) := by
  rw [← inB_iff]
  cases inB B t <;> simp
/-- what is known is right -/
structure Gd (led : α → Nat → α) (m : Nat) (s : α) (E : List (α × List Nat)) : Prop where
  nd : (E.map (·.1)).Nodup
  run : ∀ e ∈ E, e.1 = e.2.foldl led s ∧ ∀ k ∈ e.2, k < m
  ch : ∀ e ∈ E, e.2 = [] ∨ ∃ p r k, (p, r) ∈ E ∧ e.2 = r ++ [k]
theorem Gd.one (s : α) : Gd led m s [(s, [])] := ⟨by simp, fun e he => by rw [List.mem_singleton.mp he]; exact ⟨rfl, nofun⟩, fun e he => by rw [List.mem_singleton.mp he]; exact .inl rfl⟩
theorem Gd.push {s : α} {E : List (α × List Nat)} (g : Gd led m s E) {e : α × List Nat} (he : e ∈ E) {k : Nat} (hk : k < m) (hn : led e.1 k ∉ E.map (·.1)) : Gd led m s (E ++ [(led e.1 k, e.2 ++ [k])]) := by
  refine ⟨?_, fun x hx => ?_, fun x hx => ?_⟩
  · rw [List.map_append, List.nodup_append]
    refine ⟨g.nd, by simp, fun a ha b hb => ?_⟩
    rw [List.map_singleton, List.mem_singleton] at hb
    intro e'
    have hb : b = led e.1 k := hb
    exact hn (by rw [← hb, ← e']; exact ha)
  · rcases List.mem_append.mp hx with h | h
    · exact g.run x h
    · rw [List.mem_singleton.mp h]
      obtain ⟨r1, r2⟩ := g.run e he
      refine ⟨by rw [List.foldl_append, ← r1]; rfl, fun j hj => ?_⟩
      rcases List.mem_append.mp hj with h | h
      · exact r2 j h
      · rw [List.mem_singleton.mp h]; exact hk
  · rcases List.mem_append.mp hx with h | h
    · rcases g.ch x h with h | ⟨p, r, j, h1, h2⟩
      · exact .inl h
      · exact .inr ⟨p, r, j, List.mem_append_left _ h1, h2⟩
    · rw [List.mem_singleton.mp h]
      exact .inr ⟨e.1, e.2, k, List.mem_append_left _ he, rfl⟩
theorem stC_yes {B F : List (α × List Nat)} {e : α × List Nat} {k : Nat} (h : led e.1 k ∈ (B ++ F).map (·.1)) : stC led B e F k = F := if_pos (inB_iff.mpr h)
theorem stC_no {B F : List (α × List Nat)} {e : α × List Nat} {k : Nat} (h : led e.1 k ∉ (B ++ F).map (·.1)) : stC led B e F k = F ++ [(led e.1 k, e.2 ++ [k])] := if_neg (by rw [inB_no.mpr h]; exact Bool.false_ne_true)
theorem Gd.stC {s : α} {B F : List (α × List Nat)} (g : Gd led m s (B ++ F)) {e : α × List Nat} (he : e ∈ B) {k : Nat} (hk : k < m) : Gd led m s (B ++ My.stC led B e F k) := by
  by_cases h : led e.1 k ∈ (B ++ F).map (·.1)
  · rw [stC_yes h]; exact g
  · rw [stC_no h, ← List.append_assoc]
    exact g.push (List.mem_append_left _ he) hk h
/-- the codes below n -/
def stN (led : α → Nat → α) (B F : List (α × List Nat)) (e : α × List Nat) (n : Nat) : List (α × List Nat) := (List.range n).foldl (stC led B e) F
theorem stN_zero {B F : List (α × List Nat)} {e : α × List Nat} : stN led B F e 0 = F := rfl
theorem stN_succ {B F : List (α × List Nat)} {e : α × List Nat} {n : Nat} : stN led B F e (n + 1) = stC led B e (stN led B F e n) n := by
  unfold stN
  rw [List.range_succ, List.foldl_append]
  rfl
theorem Gd.stN {s : α} {B F : List (α × List Nat)} (g : Gd led m s (B ++ F)) {e : α × List Nat} (he : e ∈ B) : ∀ n, n ≤ m → Gd led m s (B ++ My.stN led B F e n)
  | 0, _ => g
  | n + 1, h => by
    rw [stN_succ]
    exact (Gd.stN g he n (by omega)).stC he (by omega)
/-- the first i of the layer -/
def nxI (led : α → Nat → α) (m : Nat) (B L : List (α × List Nat)) (i : Nat) : List (α × List Nat) := (L.take i).foldl (stE led m B) []
theorem nxI_zero {B L : List (α × List Nat)} : nxI led m B L 0 = [] := rfl
theorem nxI_succ {B L : List (α × List Nat)} {i : Nat} {e : α × List Nat} (h : L[i]? = some e) : nxI led m B L (i + 1) = stN led B (nxI led m B L i) e m := by
  unfold nxI
  rw [List.take_add_one, h, List.foldl_append]
  rfl
theorem nxI_all {B L : List (α × List Nat)} : nxI led m B L L.length = nxt led m B L := by
  unfold nxI nxt
  rw [List.take_length]
theorem Gd.nxI {s : α} {B L : List (α × List Nat)} (g : Gd led m s B) (hL : ∀ e ∈ L, e ∈ B) : ∀ i, i ≤ L.length → Gd led m s (B ++ My.nxI led m B L i)
  | 0, _ => by rw [nxI_zero, List.append_nil]; exact g
  | i + 1, h => by
    rw [nxI_succ (List.getElem?_eq_getElem (show i < L.length by omega))]
    exact (Gd.nxI g hL i (by omega)).stN (hL _ (List.getElem_mem _)) m (Nat.le_refl _)
theorem Gd.lyr (s : α) : ∀ n, Gd led m s ((My.lyr led m s n).1 ++ (My.lyr led m s n).2)
  | 0 => Gd.one s
  | n + 1 => by
    have g := Gd.lyr s n
    have := g.nxI (L := (My.lyr led m s n).2) (fun e he => List.mem_append_right _ he) _ (Nat.le_refl _)
    rw [nxI_all] at this
    exact this
theorem lyr_S (s : α) (n : Nat) : lyr led m s (n + 1) = ((lyr led m s n).1 ++ (lyr led m s n).2, nxt led m ((lyr led m s n).1 ++ (lyr led m s n).2) (lyr led m s n).2) := rfl
/-- a round that is not empty: so many are known -/
theorem lyr_many (s : α) : ∀ n, (lyr led m s n).2 ≠ [] → n + 1 ≤ ((lyr led m s n).1 ++ (lyr led m s n).2).length
  | 0, _ => Nat.le_refl _
  | n + 1, h => by
    rw [lyr_S] at h ⊢
    by_cases h0 : (lyr led m s n).2 = []
    · exact absurd (by rw [h0]; rfl) h
    · have := lyr_many s n h0
      have h2 := List.length_pos_iff.mpr h
      rw [List.length_append]
      show n + 1 + 1 ≤ ((lyr led m s n).1 ++ (lyr led m s n).2).length + _
      omega
/-- the rows of the round n have n codes -/
theorem stC_all {P : α × List Nat → Prop} {B F : List (α × List Nat)} {e : α × List Nat} {k : Nat} (hF : ∀ x ∈ F, P x) (h : P (led e.1 k, e.2 ++ [k])) : ∀ x ∈ stC led B e F k, P x := by
  intro x hx
  unfold stC at hx
  split at hx
  · exact hF x hx
  · rcases List.mem_append.mp hx with h' | h'
    · exact hF x h'
    · rw [List.mem_singleton.mp h']; exact h
theorem stN_all {P : α × List Nat → Prop} {B F : List (α × List Nat)} {e : α × List Nat} (hF : ∀ x ∈ F, P x) : ∀ n, (∀ k, k < n → P (led e.1 k, e.2 ++ [k])) → ∀ x ∈ stN led B F e n, P x
  | 0, _ => hF
  | n + 1, h => by
    rw [stN_succ]
    exact stC_all (stN_all hF n fun k hk => h k (by omega)) (h n (by omega))
theorem nxI_allP {P : α × List Nat → Prop} {B L : List (α × List Nat)} (h : ∀ e ∈ L, ∀ k, k < m → P (led e.1 k, e.2 ++ [k])) : ∀ i, i ≤ L.length → ∀ x ∈ nxI led m B L i, P x
  | 0, _ => nofun
  | i + 1, hi => by
    rw [nxI_succ (List.getElem?_eq_getElem (show i < L.length by omega))]
    exact stN_all (nxI_allP h i (by omega)) m (h _ (List.getElem_mem _))
theorem lyr_len (s : α) : ∀ n, ∀ e ∈ (lyr led m s n).2, e.2.length = n
  | 0 => fun e he => by rw [List.mem_singleton.mp he]; rfl
  | n + 1 => by
    rw [lyr_S, ← nxI_all]
    refine nxI_allP (fun e he k _ => ?_) _ (Nat.le_refl _)
    show (e.2 ++ [k]).length = n + 1
    rw [List.length_append, lyr_len s n e he]
    rfl
theorem lyr_lenB (s : α) : ∀ n, ∀ e ∈ (lyr led m s n).1 ++ (lyr led m s n).2, e.2.length ≤ n
  | 0 => fun e he => by rw [List.mem_singleton.mp he]; exact Nat.le_refl _
  | n + 1 => fun e he => by
    rw [lyr_S] at he
    rcases List.mem_append.mp he with h | h
    · have := lyr_lenB s n e h; omega
    · have := lyr_len s (n + 1) e (by rw [lyr_S]; exact h); omega
/-- rows of a round in rising order -/
def lexN : List Nat → List Nat → Prop
  | [], [] => False
  | [], _ :: _ => True
  | _ :: _, [] => False
  | x :: xs, y :: ys => x < y ∨ x = y ∧ lexN xs ys
theorem lexN_snoc : ∀ (r : List Nat) {i j : Nat}, i < j → lexN (r ++ [i]) (r ++ [j])
  | [], _, _, h => .inl h
  | x :: r, _, _, h => .inr ⟨rfl, lexN_snoc r h⟩
theorem lexN_app : ∀ {r q : List Nat} (i j : Nat), r.length = q.length → lexN r q → lexN (r ++ [i]) (q ++ [j])
  | [], [], _, _, _, h => h.elim
  | [], _ :: _, _, _, e, _ => by simp at e
  | _ :: _, [], _, _, e, _ => by simp at e
  | x :: r, y :: q, i, j, e, h => by
    rcases h with h | ⟨h, h2⟩
    · exact .inl h
    · exact .inr ⟨h, lexN_app i j (by simpa using e) h2⟩
theorem stN_sorted {B F : List (α × List Nat)} {e : α × List Nat} (hF : (F.map (·.2)).Pairwise lexN) (hlt : ∀ x ∈ F, ∀ k, lexN x.2 (e.2 ++ [k])) : ∀ n, ((stN led B F e n).map (·.2)).Pairwise lexN ∧ ∀ x ∈ stN led B F e n, ∀ k, n ≤ k → lexN x.2 (e.2 ++ [k])
  | 0 => ⟨hF, fun x hx k _ => hlt x hx k⟩
  | n + 1 => by
    obtain ⟨h1, h2⟩ := stN_sorted hF hlt n
    rw [stN_succ]
    unfold stC
    split
    · exact ⟨h1, fun x hx k hk => h2 x hx k (by omega)⟩
    · refine ⟨?_, fun x hx k hk => ?_⟩
      · rw [List.map_append, List.pairwise_append]
        refine ⟨h1, by simp, fun a ha b hb => ?_⟩
        obtain ⟨x, hx, rfl⟩ := List.mem_map.mp ha
        rw [List.map_singleton, List.mem_singleton] at hb
        rw [hb]
        exact h2 x hx n (Nat.le_refl _)
      · rcases List.mem_append.mp hx with h | h
        · exact h2 x h k (by omega)
        · rw [List.mem_singleton.mp h]
          exact lexN_snoc _ (by omega)
theorem nxI_sorted {B L : List (α × List Nat)} {c : Nat} (hL : (L.map (·.2)).Pairwise lexN) (hc : ∀ e ∈ L, e.2.length = c) : ∀ i, i ≤ L.length → ((nxI led m B L i).map (·.2)).Pairwise lexN ∧ ∀ x ∈ nxI led m B L i, ∀ j e, i ≤ j → L[j]? = some e → ∀ k, lexN x.2 (e.2 ++ [k])
  | 0, _ => ⟨.nil, nofun⟩
  | i + 1, hi => by
    obtain ⟨h1, h2⟩ := nxI_sorted hL hc i (by omega)
    have hgi : L[i]? = some L[i] := List.getElem?_eq_getElem (show i < L.length by omega)
    rw [nxI_succ hgi]
    refine ⟨(stN_sorted h1 (fun x hx k => h2 x hx i _ (Nat.le_refl _) hgi k) m).1, fun x hx j e hj he k => ?_⟩
    have hj2 := (List.getElem?_eq_some_iff.mp he).1
    have hlt : ∀ k', lexN (L[i].2 ++ [k']) (e.2 ++ [k]) := fun k' => by
      have hp := List.pairwise_iff_getElem.mp hL i j (by rw [List.length_map]; omega) (by rw [List.length_map]; omega) (by omega)
      rw [List.getElem_map, List.getElem_map, (List.getElem?_eq_some_iff.mp he).2] at hp
      exact lexN_app k' k (by rw [hc _ (List.getElem_mem _), hc e (List.mem_of_getElem? he)]) hp
    exact stN_all (P := fun x => lexN x.2 (e.2 ++ [k])) (fun y hy => h2 y hy j e (by omega) he k) m (fun k' _ => hlt k') x hx
theorem lyr_sorted (s : α) : ∀ n, ((lyr led m s n).2.map (·.2)).Pairwise lexN
  | 0 => by simp [lyr]
  | n + 1 => by
    rw [lyr_S, ← nxI_all]
    exact (nxI_sorted (lyr_sorted s n) (lyr_len s n) _ (Nat.le_refl _)).1
/-- the first one in order that is wanted: of what is known behind the last round -/
def pick (p : α → Bool) (E : List (α × List Nat)) : Option (List Nat) := (E.find? fun e => p e.1).map (·.2)
theorem pick_left {p : α → Bool} {A B : List (α × List Nat)} (h : ∀ e ∈ A, p e.1 = false) : pick p (A ++ B) = pick p B := by
  unfold pick
  rw [List.find?_append, List.find?_eq_none.mpr (fun e he => by rw [h e he]; exact Bool.false_ne_true)]
  rfl
theorem pick_at {p : α → Bool} {A B : List (α × List Nat)} {e : α × List Nat} (h : ∀ e ∈ A, p e.1 = false) (he : p e.1 = true) : pick p (A ++ e :: B) = some e.2 := by
  rw [pick_left h]
  unfold pick
  rw [List.find?_cons_of_pos (p := fun e : α × List Nat => p e.1) he]
  rfl
theorem pick_none {p : α → Bool} {A : List (α × List Nat)} (h : ∀ e ∈ A, p e.1 = false) : pick p A = none := by
  have := pick_left (B := []) h
  rw [List.append_nil] at this
  rw [this]
  rfl
/-- what stands behind a round stays -/
theorem lyr_ext (s : α) (n : Nat) : ∀ d, ∃ R, (lyr led m s (n + d)).1 ++ (lyr led m s (n + d)).2 = (lyr led m s n).1 ++ (lyr led m s n).2 ++ R
  | 0 => ⟨[], by rw [List.append_nil]; rfl⟩
  | d + 1 => by
    obtain ⟨R, h⟩ := lyr_ext s n d
    refine ⟨R ++ (lyr led m s (n + d + 1)).2, ?_⟩
    show (lyr led m s (n + d + 1)).1 ++ (lyr led m s (n + d + 1)).2 = _
    rw [show (lyr led m s (n + d + 1)).1 = (lyr led m s (n + d)).1 ++ (lyr led m s (n + d)).2 from rfl, h, List.append_assoc]
theorem lyr_end (s : α) {n : Nat} (h : (lyr led m s n).2 = []) : ∀ d, (lyr led m s (n + d)).1 = (lyr led m s n).1 ∧ (lyr led m s (n + d)).2 = []
  | 0 => ⟨rfl, h⟩
  | d + 1 => by
    obtain ⟨h1, h2⟩ := lyr_end s h d
    show (lyr led m s (n + d + 1)).1 = _ ∧ (lyr led m s (n + d + 1)).2 = []
    rw [lyr_S, h1, h2, List.append_nil]
    exact ⟨rfl, rfl⟩
/-- all that is found, N bounding the rounds -/
def allB (led : α → Nat → α) (m : Nat) (s : α) (N : Nat) : List (α × List Nat) := (lyr led m s N).1
theorem allB_of (s : α) {n N : Nat} (h : (lyr led m s n).2 = []) (hn : n ≤ N) : allB led m s N = (lyr led m s n).1 := by
  obtain ⟨d, rfl⟩ := Nat.exists_eq_add_of_le hn
  exact (lyr_end s h d).1
/-- at most N different ones can be reached -/
def Few (led : α → Nat → α) (m : Nat) (s : α) (N : Nat) : Prop := ∀ E : List (α × List Nat), Gd led m s E → E.length ≤ N
theorem lyr_stops {s : α} {N : Nat} (f : Few led m s N) : (lyr led m s N).2 = [] := by
  by_cases h : (lyr led m s N).2 = []
  · exact h
  · have h1 := lyr_many s N h
    have h2 := f _ (Gd.lyr s N)
    omega
theorem allB_ext {s : α} {n N : Nat} (f : Few led m s N) (hn : n ≤ N) : ∃ R, allB led m s N = (lyr led m s n).1 ++ (lyr led m s n).2 ++ R := by
  obtain ⟨d, rfl⟩ := Nat.exists_eq_add_of_le hn
  obtain ⟨R, h⟩ := lyr_ext (led := led) (m := m) s n d
  refine ⟨R, ?_⟩
  rw [← h, lyr_stops f, List.append_nil]
  rfl
theorem few_of {s : α} {L : List α} (h : ∀ E : List (α × List Nat), Gd led m s E → ∀ e ∈ E, e.1 ∈ L) : Few led m s L.length := fun E g => by
  have := List.Nodup.length_le_of_subset g.nd (fun a ha => by
    obtain ⟨e, he, rfl⟩ := List.mem_map.mp ha
    exact h E g e he : E.map (·.1) ⊆ L)
  rwa [List.length_map] at this
end
end My

/-! xs != [] of a list of anything: by the lengths -/
namespace My
open PySem PySem.Spec PyProof.Rows L2
def rNeNil (K : PySem.W.Frag) : R2 := fun x y H Q => ∃ (a b : Addr) (xs : List V), x = .ref a ∧ y = .ref b ∧ SqL K H a xs ∧ SqL K H b [] ∧ Q (.bl (!xs.isEmpty)) H
theorem op_neNil {X : Cx} (hu : X.A.units + 64 < cLine) : OpR X (compareOp .NotEq) (rNeNil X.K) := by
  intro pins s σ H x y v u Q I rx ry h
  obtain ⟨a, b, xs, rfl, rfl, ha, hb, q⟩ := h
  cases rx
  cases ry
  obtain ⟨its, r, pl, hz⟩ := I.list ha
  obtain ⟨its2, r2, pl2, hz2⟩ := I.list hb
  have e2 : its2 = [] := by
    have := r2.length
    cases its2 with
    | nil => rfl
    | cons => cases this
  subst e2
  have hu' : X.A.units < cLine := by omega
  cases xs with
  | nil =>
    have e1 : its = [] := by
      have := r.length
      cases its with
      | nil => rfl
      | cons => cases this
    subst e1
    exact SeqAt.RcNeAt.lists (e := fun _ => true) pl.isList pl2.isList rfl hu' (fun j h1 _ => by exact absurd h1 (by simp)) X.prog X.w _ _ ⟨.bl _, H, I, rfl, q⟩
  | cons x xs =>
    refine SeqAt.RcNeAt.lists_lengths pl.isList pl2.isList ?_ hu' X.prog X.w _ _ ⟨.bl _, H, I, rfl, q⟩
    have := r.length
    cases its with
    | nil => cases this
    | cons => rfl
end My

set_option maxHeartbeats 4000000
/-! an own error over OverflowError whose __init__ stores one field -/
namespace My
open PySem PySem.Spec PyProof.Rows L2
def oeTail : List Value := [.type "OverflowError", .type "ArithmeticError", .type "Exception", .type "BaseException", .type "object"]
/-- what is asked of the class -/
structure TgC (K : PySem.W.Frag) (C : Addr) : Prop where
  look : ∃ nm q N bs sn sub ab col dd k0 k1 k2 k3 k5, K.lookup C =
    some (excClassObj nm q C N bs oeTail true sn sub ab col dd k0 k1 k2 k3 k5 "OverflowError.__new__")
  setter : PySem.W.findIn K (.ref C) "__setattr__" = some (some (.builtin "object.__setattr__"))
  base : PySem.W.subIn K (.ref C) (.type "BaseException") = some true
  ofType : PySem.W.typeIn K (.ref C) = some (.type "type")
  keep : PySem.W.keepIn K (.ref C) = true
section
open PySem.W PySem.Calls PySem.HandSPX Builtin Builtin.ObjectAttr
variable {prog : Program} {w : World} {A : Around} {R : Result → Shared → Prop} {hp : Heap} {g : Array GenState} {d : Drawn} {t : Nat} {os : OsState}
theorem put_field {K : W.Frag} {name : Str} {tk : Tok} {v : Value} {x C : Addr} {fv : Array Value} {cd : ClassData}
    (inK : K.In hp) (atX : hp.get? x = some { cls := .ref C, data := .fields fv }) (ofC : W.clsIn K C = some cd) (order : cd.mro = .ref C :: oeTail)
    (dict : cd.hasDict = true) (free : W.findIn K (.ref C) name = some none)
    (go : ∀ h2 tk2 dx, (∀ b o, b ≠ x → hp.get? b = some o → h2.get? b = some o) → hp.objs.size ≤ dx → dx ≠ x →
      h2.get? x = some { cls := .ref C, dict := some dx, data := .fields fv } → h2.Ns1 dx (fun y => if y = name then some v else none) →
      R (.ok (.ret .none)) ⟨h2, g, d, tk2, os⟩) :
    codeAny (model prog w) A (.call (.builtin "object.__setattr__") ⟨[.ref x, .str name tk, v], []⟩) R ⟨hp, g, d, t, os⟩ := by
  have inst : W.InstAt hp x { cls := .ref C, data := .fields fv } C none := ⟨atX, rfl, rfl, trivial⟩
  have facts := F.store_object
  have some' : cd.mro.isEmpty = false := by rw [order]; rfl
  have isObj : cd.mro.contains (.type "object") = true := by
    rw [order, List.contains_cons, show oeTail.contains (.type "object") = true by decide +kernel, Bool.or_true]
  have apart : x ≠ hp.objs.size := Nat.ne_of_lt (Heap.lt_size atX)
  have inside : W.mroIn K C (.type "object") = some true := by
    unfold W.mroIn
    rw [ofC, Option.bind_some, if_neg (by rw [some']; decide), isObj]
  have sub : W.Looks (model prog w) hp (isInstance (.ref x) (.type "object")) true := inst.type.andThen (W.looks_mroIn inK inside)
  refine codeAny_call_builtin facts.slot.plain facts.entry ?_
  refine @W.check_slot (model prog w) _ _ ⟨hp, g, d, t, os⟩ "object.__setattr__" "object" "__setattr__" (.ref x)
    [.str name tk, v] [] _ facts.kind facts.split sub (facts.args (.ref x) (.str name tk) v) ?_
  have lookOrder : W.Looks (model prog w) hp (mroOf (.ref C)) cd.mro := (W.looks_clsIn inK ofC).andThen .now
  have noTaker : W.Looks (model prog w) hp (storeTaker? none) none := .now
  have lookCls : W.Looks (model prog w) hp (classData C) cd := W.looks_clsIn inK ofC
  rw [W.osa_eq, refuse_eq]
  refine wpAny_bind (wpAny_bind ?_)
  refine inst.type.at (wpAny_bind (lookOrder.at ?_))
  rw [order, refuseLoop_ref, show refuseLoop (.ref x) "__setattr__" oeTail = pure () from F.store_OverflowError.passes _]
  refine wpAny_pure (wpAny_bind ?_)
  refine inst.type.at (wpAny_bind ((W.looks_findIn inK free).at (wpAny_bind (noTaker.at ?_))))
  show wpAny _ _ (storeInOwnDict (.ref x) (.ref C) (.str name tk) name v false) _ _ _
  obtain ⟨c1, c2, c3, c4, c5, c6, c7, c8, c9, c10, c11⟩ := cd
  dsimp only at dict
  subst dict
  unfold storeInOwnDict ownDictForStores
  repeat (first
    | with_reducible refine store_in_new ?_ ?_
    | with_reducible refine wpAny_loadPart_at atX ?_
    | with_reducible refine lookCls.at ?_
    | wp_step)
  · exact ⟨_, #[], _, (Heap.get?_update_ne _ _ _ _ apart.symm).trans (Heap.get?_push_at rfl rfl),
      rfl, fun e he => absurd he (by simp), fun _ => rfl⟩
  · intro h2 tk2 names same
    have stays : (hp.push { cls := .type "dict", data := .dict #[] }).get? x = some { cls := .ref C, data := .fields fv } := Heap.get?_push_of_some _ atX
    refine go h2 tk2 hp.objs.size (fun b o ne ho => ?_) (Nat.le_refl _) apart.symm ?_ names
    · refine (same.2 b (Nat.ne_of_lt (Heap.lt_size ho))).trans ?_
      exact (Heap.get?_update_ne _ _ _ _ ne).trans (Heap.get?_push_of_some _ ho)
    · exact (same.2 x apart).trans (Heap.get?_update_self _ stays rfl)
end
section
variable {X : Cx} {pins : List (Addr × Obj)} {σ : L2.St} {H : Hp} {s : Shared} {a C dx : Addr} {f : Str} {y : V} {u : Value} {Q : Unit → Shared → Prop} {E : Value → Shared → Prop} {A : Around}
theorem put_first (T : TgC X.K C) (I : Inv X pins σ H s) (e : H a = some (exo a C none)) (free : PySem.W.findIn X.K (.ref C) f = some none) (ry : RelV y u)
    (go : ∀ dx s2, H dx = none → dx ≠ a → Inv X pins σ (upd (upd H dx (exd dx [(f, y)])) a (exo a C (some dx))) s2 → Q () s2) :
    wpAny (model X.prog X.w) A (setAttr (.ref a) f u) Q E s := by
  obtain ⟨nm, q, N, bs, sn, sub, ab, col, dd, k0, k1, k2, k3, k5, hC⟩ := T.look
  have ofC : PySem.W.clsIn X.K C = some {
      name := nm
      bases := bs
      mro := .ref C :: oeTail
      ns := N
      qualname := q
      hasDict := true
      slotNames := sn
      subclasses := sub
      abstract := ab
      collection := col
      hasDel := false } := by
    unfold PySem.W.clsIn
    rw [hC] <;> rfl
  obtain ⟨t1, ho⟩ := exo_at I.hok e
  obtain ⟨hp, g, d, t, os⟩ := s
  refine PySem.W.set_plain I.kIn (ox := { cls := .ref C, dict := none, data := .fields #[.ref t1, .none, .none, .none, .bool false, .none] }) (od := none)
    ⟨ho, rfl, rfl, trivial⟩ T.setter ?_
  refine put_field I.kIn ho ofC rfl rfl free fun h2 tk2 dx k dn dne hx hn => ?_
  have newDx : H dx = none := I.hok.fresh dn
  have notDx : ∀ {b : Addr} {o : Obj}, hp.get? b = some o → b ≠ dx := fun {b o} z => Nat.ne_of_lt (Nat.lt_of_lt_of_le (Heap.lt_size z) dn)
  have notA : ∀ {b : Addr}, H b = none → b ≠ a := fun {b} n z => by
    rw [z, e] at n
    cases n
  have step : Un X.fs [] H (upd (upd H dx (exd dx [(f, y)])) a (exo a C (some dx))) hp h2 := by
    refine {
      keep := fun b o z n _ _ => k b o (notA n) z
      slot := fun b o z n _ _ => ⟨_, k b o (notA n) z⟩
      free := fun b o z n _ => ?_
      there := fun b o z _ => ?_
      tups := fun b xs z => ?_
      frzs := fun b o v z => ?_
      tbls := fun b ps z => ⟨#[], ?_⟩ }
    · rw [upd_ne (notA n), upd_ne (notDx z)]
      exact n
    · by_cases hb : b = a
      · exact ⟨_, by rw [hb]; exact hx⟩
      · exact ⟨o, k b o hb z⟩
    · rw [upd_ne (at_ne e z exo_tup), upd_ne (ne_of_none z newDx)]
      exact z
    · rw [upd_ne (at_ne e z exo_frz), upd_ne (ne_of_none z newDx)]
      exact z
    · rw [upd_ne (at_ne e z exo_tbl), upd_ne (ne_of_none z newDx), z]
      simp
  refine go dx _ newDx dne (I.un (t' := tk2) step fun b o z => ?_)
  by_cases hb : b = a
  · subst hb
    rw [upd_same] at z
    cases z
    exact exo_ok hx
  rw [upd_ne hb] at z
  by_cases hd : b = dx
  · subst hd
    rw [upd_same] at z
    cases z
    exact exd_ok hn (relO_put (fs := []) ry fun _ => True.intro)
  rw [upd_ne hd] at z
  refine (I.hok b o z).stay (fun c v hc r => k c v ?_ r) (fun c hc => ?_) (fun c xs hc => ?_)
  · rcases hc with hc | hc
    · rw [hc]
      exact hb
    · exact at_ne e hc exo_own
  · rw [upd_ne (at_ne e hc exo_own), upd_ne (ne_of_none hc newDx)]
    exact hc
  · rw [upd_ne (at_ne e hc exo_tup), upd_ne (ne_of_none hc newDx)]
    exact hc
end
/-- self.f = e, in the __init__ of such a class -/
def tPut (K : PySem.W.Frag) (f : Str) (to te : TE) : L2.TS := fun D σ H => te σ H fun y H1 => to σ H1 fun x H2 => ∃ a C : Addr, x = .ref a ∧ TgC K C ∧
  PySem.W.findIn K (.ref C) f = some none ∧ H2 a = some (exo a C none) ∧
  ∀ dx, H2 dx = none → dx ≠ a → D.nx σ (upd (upd H2 dx (exd dx [(f, y)])) a (exo a C (some dx)))
section
variable {X : Cx} {o e : Expr} {es : List Expr} {to te : TE} {ta : TA} {f : Str} {p p' pos : Pos}
theorem ps_put (ho : PE X o to) (he : PE X e te) (hs : swapsWith e (some (.Attribute o f p')) pos.line X.env = pure false := by rfl) :
    PS X (.Assign [.Attribute o f p'] e pos) (tPut X.K f to te) := by
  refine ⟨fun pins s σ H D I h => ?_⟩
  refine plainObj_wpAny_Assign_Attribute (thn (he.run pins s σ H _ I h) fun v s1 ⟨y, H1, I1, r1, q1⟩ => ?_) hs
  refine thn (ho.run pins s1 σ H1 _ I1 q1) fun u s2 ⟨x, H2, I2, r2, a, C, ex, T, free, ea, q⟩ => ?_
  subst ex
  obtain rfl : u = Value.ref a := r2
  exact put_first T I2 ea free r1 fun dx s3 n ne J => ⟨σ, _, J, q dx n ne⟩
theorem pmk_tg {CX : CXT} {x : Str} {C fI : Addr} {k : Nat} {fd : FuncData} {ps : List Str} {sp : Sp} {ds : List Value} {dvs : List V} (T : TgC X.K C)
    (iC : PySem.W.findIn X.K (.ref C) "__init__" = some (some (.ref fI))) (tI : PySem.W.typeIn X.K (.ref fI) = some (.type "function"))
    (F1 : FnOk X.prog X.w X.K X.mg X.base CX k fI fd ps sp) (hr : Room (k + 1) X.A) (hb : Binds X.K fd ps ds) (hd : Vals dvs ds)
    (hx : Passes CX X (fun _ _ _ => False)) (hg : Gl X x) (hm : X.mg x = some (.ref C)) (ha : PA X (e :: es) ta)
    (hdb : (x == ("__debug__" : Str)) = false := by decide) (he : starEach (e :: es) X.env = (false, eval e X.env) :: starEach es X.env := by rfl)
    (hpl : (backTo pos (starEach es X.env)).any (·.1) = false := by rfl) :
    PMk X (.Call (.Name x p) (e :: es) [] pos) (tMkO C sp dvs ta) := by
  intro pins s σ H Q I h
  obtain ⟨nm, q, N, bs, sn, sub, ab, col, dd, k0, k1, k2, k3, k5, hC⟩ := T.look
  refine wpAny_Call_Name_kw (ld_glob I hg hm ?_ hdb)
  refine PySem.W.callWith_K (h₀ := X.base) I.ok.mod.kin T.keep ?_ he hpl
  refine thn (ha.run pos pins s σ H _ I h) fun us s1 ⟨vs, H1, I1, r1, hz, q1⟩ => ⟨I1.kIn, ?_⟩
  show wpAny _ _ (call (.ref C) us) _ _ _
  obtain ⟨hp, g, dr, tk, os⟩ := s1
  have over : hp.objs.size ≤ hp.objs.size + 1 := Nat.le_succ _
  have new : H1 (hp.objs.size + 1) = none := I1.hok.fresh over
  have want := q1 (hp.objs.size + 1) new
  have stays : ∀ b o, hp.get? b = some o → ((hp.push (PySem.W.kdv_tup us)).push (PySem.HandSPX.excO C hp.objs.size)).get? b = some o := fun b o z =>
    Heap.get?_push_of_some _ (Heap.get?_push_of_some _ z)
  have made : ((hp.push (PySem.W.kdv_tup us)).push (PySem.HandSPX.excO C hp.objs.size)).get? (hp.objs.size + 1) = some (PySem.HandSPX.excO C hp.objs.size) := by
    heap_get
  have I2 := I1.laid (t' := tk) (a := hp.objs.size + 1) (o := exo (hp.objs.size + 1) C none)
    (h' := (hp.push (PySem.W.kdv_tup us)).push (PySem.HandSPX.excO C hp.objs.size)) stays over (exo_ok made)
  have r2 : Vals (V.ref (hp.objs.size + 1) :: (vs ++ dvs)) (Value.ref (hp.objs.size + 1) :: (us ++ ds)) := .cons rfl (r1.append hd)
  have lens : (Value.ref (hp.objs.size + 1) :: us ++ ds).length = ps.length := by
    have z := r2.length
    rw [F1.len _ _ _ _ want] at z
    exact z.symm
  have small : us.length ≤ sizeLine := by
    rw [← Paired.length r1, sizeLine_eq]
    omega
  refine wpAny_call (PySem.HandSPX.call_own F.excBase_OverflowError (fun _ => rfl) (I1.kIn _ _ hC) (PySem.W.looks_findIn I1.kIn iC)
    (fun self => PySem.W.bind_fn I1.kIn self tI) small ?_)
  refine codeAny_mono (F1.run _ X.stack _ _ ⟨Value.ref (hp.objs.size + 1) :: us, []⟩ (Value.ref (hp.objs.size + 1) :: (us ++ ds)) _ _ (fun _ _ _ => False)
    (hr.make C us []) (I2.env0.make C us []) (hb _ (Value.ref (hp.objs.size + 1) :: us) I2.kIn lens) r2 want) fun r s2 back => ?_
  match r, back with
  | .error er, back => exact hx pins σ _ _ er s2 I2 back
  | .ok (.ret u), back =>
    obtain ⟨v, H2, os2, bare2, un2, hok2, rv, ev, d, fs, ea, ed, hd1, q2⟩ := back
    subst ev
    obtain ⟨h2, g2, d2, t2, os'⟩ := s2
    exact ⟨rv, mk_end (raises_own T.base T.ofType) I1 over stays un2 hok2 os2 bare2 ea ed hd1 q2⟩
end
end My

/-! an instance called, within a lambda: the reading does not name what stands around -/
namespace My
open PySem PySem.Spec PyProof.Rows L2
def tCallI (C : Addr) (sp : Sp) (E : XK) (tf : TE) (t : TA) : TE := fun σ H Q => tf σ H fun y H1 => ∃ a, y = V.ref a ∧ t σ H1 fun vs H2 => ((∃ dx vs, SlX.Slt H2 a C dx vs) ∨ ∃ dx fs, H2 a = some (.ins C dx fs)) ∧ sp (V.ref a :: vs) H2 Q E
theorem pe_callI {X : Cx} {CX : CXT} {k : Nat} {C g : Addr} {sp : Sp} {E : XK} {fe e : Expr} {es : List Expr} {tf : TE} {t : TA} {pos : Pos} (hf : PE X fe tf) (c : StX.CallO X.K C g) (F : FnR X.prog X.w X.K X.mg X.base CX k g sp) (hr : Room k X.A) (hx : Passes CX X E) (ha : PA X (e :: es) t)
    (ht : eval (.Call fe (e :: es) [] pos) X.env = (do callWith pos (← eval fe X.env) [] (backTo pos (starEach (e :: es) X.env)) (backToKw pos (keywordEach [] X.env))) := by rfl)
    (he : starEach (e :: es) X.env = (false, eval e X.env) :: starEach es X.env := by rfl) (hpl : (backTo pos (starEach es X.env)).any (·.1) = false := by rfl) : PE X (.Call fe (e :: es) [] pos) (tCallI C sp E tf t) :=
  StX.pe_callO hf c F hr hx ha ht he hpl
end My

/-! own ==, len, += of instances with a dict -/
namespace My
open PySem PySem.Spec PyProof.Rows L2 StX
/-- what isinstance asks of an own class; nothing of a built-in type is of it -/
structure IsC (K : PySem.W.Frag) (C : Addr) : Prop where
  ca : PySem.W.findIn K (.ref C) "__class__" = some (some (.builtin "object.__class__"))
  cn : PySem.W.specialIn K (.builtin "object.__class__") "__get__" = some (some (.builtin "getset_descriptor.__get__"))
  ct : PySem.W.takesIn K (.builtin "object.__class__") = some true
  cm : PySem.W.mroIn K C (.type "object") = some true
  no : ∀ T : String, T ∈ ["NoneType", "bool", "int", "str", "list", "tuple", "dict"] → PySem.W.kitOne K (.type T) (.ref C) = some false
theorem kit_noT {K : PySem.W.Frag} {C : Addr} {T : String} (isC : PySem.W.isClsIn K C = true) (tC : PySem.W.typeIn K (.ref C) = some (.type "type")) (s : PySem.W.subIn K (.type T) (.ref C) = some false) : PySem.W.kitOne K (.type T) (.ref C) = some false := by
  have h : (PySem.W.clsIn K C).isSome = true := isC
  unfold PySem.W.kitOne
  rw [if_neg (fun z => by have := beq_iff_eq.mp z; cases this)]
  show (if ((PySem.W.clsIn K C).isSome && PySem.W.typeIn K (.ref C) == some (.type "type")) = true then PySem.W.subIn K (.type T) (.ref C) else none) = some false
  rw [if_pos (by rw [h, tC]; rfl), s]
theorem kit_selfC {K : PySem.W.Frag} {C : Addr} : PySem.W.kitOne K (.ref C) (.ref C) = some true := by
  unfold PySem.W.kitOne
  rw [if_pos (by simp)]
theorem isc_no {K : PySem.W.Frag} {C : Addr} (isC : PySem.W.isClsIn K C = true) (tC : PySem.W.typeIn K (.ref C) = some (.type "type")) (h1 : PySem.W.subIn K (.type "NoneType") (.ref C) = some false) (h2 : PySem.W.subIn K (.type "bool") (.ref C) = some false) (h3 : PySem.W.subIn K (.type "int") (.ref C) = some false)
    (h4 : PySem.W.subIn K (.type "str") (.ref C) = some false) (h5 : PySem.W.subIn K (.type "list") (.ref C) = some false) (h6 : PySem.W.subIn K (.type "tuple") (.ref C) = some false) (h7 : PySem.W.subIn K (.type "dict") (.ref C) = some false) :
    ∀ T : String, T ∈ ["NoneType", "bool", "int", "str", "list", "tuple", "dict"] → PySem.W.kitOne K (.type T) (.ref C) = some false := by
  intro T hT
  simp only [List.mem_cons, List.not_mem_nil, or_false] at hT
  rcases hT with rfl | rfl | rfl | rfl | rfl | rfl | rfl
  · exact kit_noT isC tC h1
  · exact kit_noT isC tC h2
  · exact kit_noT isC tC h3
  · exact kit_noT isC tC h4
  · exact kit_noT isC tC h5
  · exact kit_noT isC tC h6
  · exact kit_noT isC tC h7
theorem IsC.ty {K : PySem.W.Frag} {C a dx : Addr} {H : Hp} {fs : List (Str × V)} (h : IsC K C) (cl : Cls K C) (e : H a = some (.ins C dx fs)) : TyX K H (.ref a) (.ref C) := .base (.ins e cl h.ca h.cn h.ct h.cm)
section
variable {X : Cx} {CX : CXT} {n : Nat} {C g : Addr} {sp : Sp} {E : XK}
theorem inst_of {pins : List (Addr × Obj)} {σ : L2.St} {H : Hp} {s : Shared} {a dx : Addr} {fs : List (Str × V)} (I : Inv X pins σ H s) (h : H a = some (.ins C dx fs)) : ∃ ox od, PySem.W.InstAt s.heap a ox C od := by
  obtain ⟨mA, O, _⟩ := ins_get I.hok h
  obtain ⟨od, J, _⟩ := O.look
  exact ⟨_, _, J⟩
/-- x op y, both instances of C, C's def for op at g -/
def rCmpI (K : PySem.W.Frag) (C : Addr) (sp : Sp) (E : XK) : R2 := fun x y H Q => ∃ a dx fs b dy gs, x = .ref a ∧ y = .ref b ∧ H a = some (.ins C dx fs) ∧ H b = some (.ins C dy gs) ∧ sp [x, y] H Q E
theorem op_cmpI {op : CmpOp} (hop : ∀ a b, compareOp op a b = richCompare op a b) (hs : PySem.W.findIn X.K (.ref C) (cmpInfo op).2.1 = some (some (.ref g))) (hf : PySem.W.isFn X.K (.ref g) = true)
    (F : FnR X.prog X.w X.K X.mg X.base CX n g sp) (hr : Room n X.A) (hx : Passes CX X E) : OpR X (compareOp op) (rCmpI X.K C sp E) := by
  rintro pins s σ H x y v u Q I rx ry ⟨a, dx, fs, b, dy, gs, rfl, rfl, ha, hb, q⟩
  cases (show v = Value.ref a from rx)
  cases (show u = Value.ref b from ry)
  obtain ⟨_, _, J⟩ := inst_of I ha
  obtain ⟨_, _, J'⟩ := inst_of I hb
  obtain ⟨m, hF⟩ := I.fr
  have hn : PySem.W.notFirst X.K C (.ref C) = true := by
    show ((Value.ref C == Value.ref C) || _) = true
    rw [show (Value.ref C == Value.ref C) = true from by simp, Bool.true_or]
  rw [hop]
  exact PySem.W.cmp_K (op := op) (tb := .ref C) hr.units0 hF I.ok.mod.kin J J'.type hn hs hf
    (wpAny_mono (wpAny_call (run_fnR (us := [.ref a, .ref b]) (vs := [.ref a, .ref b]) F hr hx I (.cons rfl (.cons rfl .nil)) q)) (fun w s' ⟨z', H', I', rz, qz⟩ => SlX.cmpback rz ⟨z', H', I', rz, qz⟩) fun _ _ x => x)
/-- len(x) -/
def rLenI (C : Addr) (sp : Sp) (E : XK) : List V → Hp → VK → Prop := fun xs H Q => ∃ a dx fs, xs = [V.ref a] ∧ H a = some (.ins C dx fs) ∧ sp [.ref a] H (fun z H' => ∃ n : Int, z = .int n ∧ 0 ≤ n ∧ n < 2 ^ 63 ∧ Q (.int n) H') E
theorem call_lenI (hs : PySem.W.findIn X.K (.ref C) "__len__" = some (some (.ref g))) (hf : PySem.W.isFn X.K (.ref g) = true) (F : FnR X.prog X.w X.K X.mg X.base CX n g sp) (hr : Room (n + 1) X.A) (hx : Passes CX X E) : CallR X (.builtin "len") (rLenI C sp E) := by
  rintro pins s σ H xs us Q I r ⟨a, dx, fs, rfl, ha, q⟩
  obtain ⟨u, rfl, ru⟩ := r.one
  cases (show u = Value.ref a from ru)
  obtain ⟨_, _, J⟩ := inst_of I ha
  obtain ⟨m, hF⟩ := I.fr
  refine PySem.W.len_K hF I.ok.mod.kin J hs hf (wpAny_mono (wpAny_call (SlX.run_at (us := [.ref a]) (ws := [.ref a]) F hr.in1 I.env0.in1 hx I (.cons rfl .nil) q)) (fun w s' z => ?_) fun _ _ x => x)
  obtain ⟨z', H', I', rz, k, ek, k0, k1, qz⟩ := z
  subst ek
  obtain ⟨t, e⟩ := (show ∃ t, w = Value.int k t from rz)
  cases e
  exact ⟨⟨k0, k1⟩, .int k, H', I'.tok _, ⟨_, rfl⟩, qz⟩
/-- x += y -/
def tIpI (C : Addr) (sp : Sp) (E : XK) : TIp := fun x y H Q => ∃ a dx fs, x = .ref a ∧ H a = some (.ins C dx fs) ∧ sp [x, y] H Q E
theorem ip_ownI (hc : PySem.W.selfFirst X.K C = true) (hs : PySem.W.findIn X.K (.ref C) "__iadd__" = some (some (.ref g))) (hf : PySem.W.isFn X.K (.ref g) = true) (F : FnR X.prog X.w X.K X.mg X.base CX n g sp) (hr : Room n X.A) (hx : Passes CX X E) : PIp X .Add (tIpI C sp E) := by
  rintro pins s σ H x y v u Q I rx ry ⟨a, dx, fs, rfl, ha, q⟩
  cases (show v = Value.ref a from rx)
  obtain ⟨_, _, J⟩ := inst_of I ha
  obtain ⟨m, hF⟩ := I.fr
  refine PySem.W.ksp_inplace (op := .Add) hF I.ok.mod.kin J hc hs hf (wpAny_mono (wpAny_call (run_fnR (us := [.ref a, u]) (vs := [.ref a, y]) F hr hx I (.cons rfl (.cons ry .nil)) q)) (fun w s' ⟨z', H', I', rz, qz⟩ => SlX.cmpback rz ⟨z', H', I', rz, qz⟩) fun _ _ x => x)
end
end My

/-! + and * of instances whose class has them as its own -/
namespace My
open PySem PySem.Spec PyProof.Rows PySem.Calls PySem.W
section
variable {prog : Program} {w : World} {A : Around} {E : Value → Shared → Prop} {s : Shared} {K : Frag} {x y C L f g dx : Addr} {h₀ : Heap} {m : Str → Option Value} {ox oy : Obj} {od oe : Option Obj}
theorem ksp_binC {op : Operator} {Q : Value → Shared → Prop} (F : Fr h₀ L s.heap m) (X₀ : K.In h₀) (I : InstAt s.heap x ox C od) (J : InstAt s.heap y oy C oe) (hc : selfFirst K C = true)
    (hs : findIn K (.ref C) (PySem.dunder op.info.2) = some (some (.ref f))) (hf : isFn K (.ref f) = true)
    (h : wpAny (model prog w) A (call (.ref f) [.ref x, .ref y]) (PySem.W.CmpBack Q) E s) : wpAny (model prog w) A (binaryOp op (.ref x) (.ref y)) Q E s := by
  have X := X₀.keeps F.keep
  obtain ⟨cd, rest, hcd, hm⟩ := ksp_first hc
  rcases hi : op.info with ⟨sym, nm'⟩
  rw [hi] at hs
  dsimp only at hs
  have one := ksp_try X I hs hf h
  obtain ⟨hh, g, d, tt, os⟩ := s
  have L1 : Looks (model prog w) hh (typeOf (.ref x)) (.ref C) := I.type
  have L2 : Looks (model prog w) hh (typeOf (.ref y)) (.ref C) := J.type
  have L3 : Looks (model prog w) hh (fillsNumberSlot (.ref C) nm') true := fills_K X hcd hm hs
  have hne : (Value.ref C == Value.ref C) = true := by simp
  simp only [binaryOp, hi]
  refine wpAny_holding (wpAny_bind ?_)
  unfold binaryOp1
  refine wpAny_bind (L1.at (wpAny_bind (L2.at (wpAny_bind (L3.at ?_)))))
  simp only [hne, if_true]
  ksp_lk
  refine wpAny_mono one (fun r s' hr' => ?_) fun _ _ e => e
  obtain ⟨v, rfl, hq⟩ := hr'
  ksp_lk
  exact hq
theorem int_mul_meets {n : Int} {u : Tok} : MeetsIn prog w (Builtin.«int.__mul__» ⟨[.int n u, .ref y], []⟩) (fun _ R s => s.heap.get? y = some (instObj C dx) ∧ R (.ok (.ret .notImplemented)) s) := by
  intro A R s ⟨hy, hR⟩
  obtain ⟨hp, g, d, tk, os⟩ := s
  unfold Builtin.«int.__mul__» Builtin.Int.intBinary
  refine wpAny_bind (wpAny_pure ?_)
  refine wpAny_bind (wpAny_pure ?_)
  refine wpAny_bind ?_
  show wpAny _ _ (asInt? (.ref y)) _ _ _
  unfold asInt?
  refine wpAny_bind (wpAny_loadPart hy ?_)
  refine wpAny_pure ?_
  exact wpAny_bind (wpAny_rule (wpAny_pure hR))
theorem int_mul_no {n : Int} {u : Tok} {Q : Value → Shared → Prop} (hy : s.heap.get? y = some (instObj C dx)) (q : Q .notImplemented s) : wpAny (model prog w) A (call (.builtin "int.__mul__") [.int n u, .ref y]) Q E s := by
  have g := int_mul_meets (prog := prog) (w := w) (y := y) (C := C) (dx := dx) (n := n) (u := u)
  have ar := PySem.F.args_int_mul_2 (.int n u) (.ref y)
  have en := PySem.F.entry_int_mul
  generalize Builtin.«int.__mul__» = B at g en
  exact call_meetsIn PySem.F.slot_int_mul (typeIs_int s n u) en ar g ⟨hy, q⟩
set_option maxHeartbeats 4000000 in
theorem ksp_mulR {n : Int} {u : Tok} {Q : Value → Shared → Prop} (F : Fr h₀ L s.heap m) (X₀ : K.In h₀) (hy : s.heap.get? y = some (instObj C dx)) (I : InstAt s.heap y oy C oe) (hc : selfFirst K C = true)
    (hm' : findIn K (.ref C) (PySem.dunder "mul") = some (some (.ref g))) (hs : findIn K (.ref C) (dunderR "mul") = some (some (.ref f))) (hf : isFn K (.ref f) = true) (hsub : subIn K (.ref C) (.type "int") = some false)
    (h : wpAny (model prog w) A (call (.ref f) [.ref y, .int n u]) (PySem.W.CmpBack Q) E s) : wpAny (model prog w) A (binaryOp .Mult (.int n u) (.ref y)) Q E s := by
  have X := X₀.keeps F.keep
  obtain ⟨cd, rest, hcd, hm⟩ := ksp_first hc
  have one : wpAny (model prog w) A (tryMethod (.ref y) (dunderR "mul") (.int n u)) (fun r s' => ∃ v, r = some v ∧ Q v s') E s := ksp_try X I hs hf h
  have dec : ∀ {Q' : Option Value → Shared → Prop}, Q' none s → wpAny (model prog w) A (tryMethod (.int n u) (dunder "mul") (.ref y)) Q' E s := by
    intro Q' q
    refine wpAny_tryMethod_declines (typeIs_int s n u) PySem.F.slot_int_mul ?_
    exact int_mul_no hy ⟨rfl, q⟩
  obtain ⟨hh, g', d, tt, os⟩ := s
  have L1 : Looks (model prog w) hh (typeOf (.int n u)) (.type "int") := Looks.of_pure rfl
  have L2 : Looks (model prog w) hh (typeOf (.ref y)) (.ref C) := I.type
  have L3 : Looks (model prog w) hh (fillsNumberSlot (.ref C) "mul") true := fills_K X hcd hm hm'
  have L4 : Looks (model prog w) hh (fillsNumberSlot (.type "int") "mul") true := Looks.of_pure PySem.F.fills_int_mul
  have L5 : Looks (model prog w) hh (isSubtype (.ref C) (.type "int")) false := looks_subIn X hsub
  have L7 : Looks (model prog w) hh (numberSlotInPython (.type "int") "mul") false := Looks.of_pure rfl
  have hne : (Value.type "int" == Value.ref C) = false := Bool.eq_false_iff.mpr fun q => by cases beq_iff_eq.mp q
  simp only [binaryOp]
  refine wpAny_holding ?_
  show wpAny _ _ (binaryOp1 "mul" (.int n u) (.ref y) >>= _) _ _ _
  refine wpAny_bind ?_
  unfold binaryOp1
  refine wpAny_bind (L1.at (wpAny_bind (L2.at (wpAny_bind (L4.at ?_)))))
  simp only [hne, Bool.false_eq_true, if_false]
  refine wpAny_bind (L3.at ?_)
  simp only [Bool.and_self, if_true]
  refine wpAny_bind (L5.at ?_)
  simp only [Bool.false_eq_true, if_false, pure_bind, Bool.not_false, Bool.and_self, if_true]
  refine wpAny_bind (L7.at ?_)
  simp only [Bool.false_eq_true, if_false, pure_bind, Bool.not_false, Bool.and_self, if_true]
  refine wpAny_bind (dec ?_)
  ksp_lk
  refine wpAny_mono one (fun r s' hr' => ?_) fun _ _ e => e
  obtain ⟨v, rfl, hq⟩ := hr'
  ksp_lk
  exact hq
end
end My
namespace My
open PySem PySem.Spec PyProof.Rows L2 StX
section
variable {X : Cx} {CX : CXT} {n : Nat} {C g g2 : Addr} {sp : Sp} {E : XK}
/-- x + y, both instances of C -/
def rBinI (C : Addr) (sp : Sp) (E : XK) : R2 := fun x y H Q => ∃ a dx fs b dy gs, x = .ref a ∧ y = .ref b ∧ H a = some (.ins C dx fs) ∧ H b = some (.ins C dy gs) ∧ sp [x, y] H Q E
theorem op_binIK {K : PySem.W.Frag} {prog : Program} {w : World} {mg : Str → Option Value} {base : Heap} {op : Operator} (hc : PySem.W.selfFirst K C = true) (hs : PySem.W.findIn K (.ref C) (PySem.dunder op.info.2) = some (some (.ref g))) (hf : PySem.W.isFn K (.ref g) = true)
    (F : FnR prog w K mg base CX n g sp) (hr : Room n X.A) (hx : Passes CX X E) (hK : X.K = K := by rfl) (hP : X.prog = prog := by rfl) (hw : X.w = w := by rfl) (hm : X.mg = mg := by rfl) (hb : X.base = base := by rfl) : OpR X (binaryOp op) (rBinI C sp E) := by
  subst hK hP hw hm hb
  rintro pins s σ H x y v u Q I rx ry ⟨a, dx, fs, b, dy, gs, rfl, rfl, ha, hb, q⟩
  cases (show v = Value.ref a from rx)
  cases (show u = Value.ref b from ry)
  obtain ⟨_, _, J⟩ := inst_of I ha
  obtain ⟨_, _, J'⟩ := inst_of I hb
  obtain ⟨m, hF⟩ := I.fr
  exact ksp_binC hF I.ok.mod.kin J J' hc hs hf
    (wpAny_mono (wpAny_call (run_fnR (us := [.ref a, .ref b]) (vs := [.ref a, .ref b]) F hr hx I (.cons rfl (.cons rfl .nil)) q)) (fun w s' ⟨z', H', I', rz, qz⟩ => SlX.cmpback rz ⟨z', H', I', rz, qz⟩) fun _ _ x => x)
/-- i * y, y an instance of C -/
def rMulRI (C : Addr) (sp : Sp) (E : XK) : R2 := fun x y H Q => ∃ i b dy gs, x = .int i ∧ y = .ref b ∧ H b = some (.ins C dy gs) ∧ sp [y, x] H Q E
theorem op_mulRIK {K : PySem.W.Frag} {prog : Program} {w : World} {mg : Str → Option Value} {base : Heap} (hc : PySem.W.selfFirst K C = true) (hm' : PySem.W.findIn K (.ref C) "__mul__" = some (some (.ref g2))) (hsub : PySem.W.subIn K (.ref C) (.type "int") = some false)
    (hs : PySem.W.findIn K (.ref C) "__rmul__" = some (some (.ref g))) (hf : PySem.W.isFn K (.ref g) = true)
    (F : FnR prog w K mg base CX n g sp) (hr : Room n X.A) (hx : Passes CX X E) (hK : X.K = K := by rfl) (hP : X.prog = prog := by rfl) (hw : X.w = w := by rfl) (hm : X.mg = mg := by rfl) (hb : X.base = base := by rfl) : OpR X (binaryOp .Mult) (rMulRI C sp E) := by
  subst hK hP hw hm hb
  rintro pins s σ H x y v u Q I rx ry ⟨i, b, dy, gs, rfl, rfl, hb, q⟩
  obtain ⟨t, rfl⟩ := (show ∃ t, v = Value.int i t from rx)
  cases (show u = Value.ref b from ry)
  obtain ⟨mA, O, _⟩ := ins_get I.hok hb
  obtain ⟨_, _, J⟩ := inst_of I hb
  obtain ⟨m, hF⟩ := I.fr
  have e1 : PySem.dunder "mul" = ("__mul__" : Str) := by decide +kernel
  have e2 : dunderR "mul" = ("__rmul__" : Str) := by decide +kernel
  exact ksp_mulR hF I.ok.mod.kin O.obj J hc (by rw [e1]; exact hm') (by rw [e2]; exact hs) hf hsub
    (wpAny_mono (wpAny_call (run_fnR (us := [.ref b, .int i t]) (vs := [.ref b, .int i]) F hr hx I (.cons rfl (.cons ⟨t, rfl⟩ .nil)) q)) (fun w s' ⟨z', H', I', rz, qz⟩ => SlX.cmpback rz ⟨z', H', I', rz, qz⟩) fun _ _ x => x)
theorem get_list : PGet X (rIxL X.K) := by
  intro pins s σ H x y v u Q I rx ry h
  obtain ⟨p, xs, i, z, rfl, rfl, hq, he, q⟩ := h
  cases rx
  obtain ⟨t, rfl⟩ := ry
  obtain ⟨its, r, pl, hz⟩ := I.list hq
  obtain ⟨j, h1, h2, h3, h4, h5⟩ := atI_get he
  obtain ⟨w, ew, rw'⟩ := r.get h2
  have hl := r.length
  have hn := line63
  have fin : EP X pins σ Q w s := ⟨z, H, I, rw', q⟩
  by_cases h0 : 0 ≤ i
  · have hj : i.toNat = j := by
      rw [seqIndex_of h0 h5] at h1
      exact Option.some.inj h1
    exact wpAny_getItem_list pl.isList h0 (by omega) (by rw [hj]; simpa using ew) fin
  · have hj : (i + (its.toArray.size : Int)).toNat = j := by
      rw [seqIndex_neg (by omega) h4] at h1
      rw [List.size_toArray, ← hl]
      exact Option.some.inj h1
    exact wpAny_getItem_list_neg pl.isList (by omega) (by rw [List.size_toArray] <;> omega) (by omega) (by rw [hj]; simpa using ew) fin
end
end My

/-! x != y of instances whose class has an own == and no own != ; x == y where y is a thing of a built-in type -/
namespace My
open PySem PySem.Spec PyProof.Rows PySem.Calls PySem.W
section
variable {prog : Program} {w : World} {A A₀ : Around} {E : Value → Shared → Prop} {s : Shared} {K : Frag} {x C L f : Addr} {h₀ : Heap} {m : Str → Option Value} {ox : Obj} {od : Option Obj} {name : Str} {b tb : Value}
theorem ifBound_Kb {M : Model} {id : String} {args : List Value} {Q : Option Value → Shared → Prop} (X : K.In s.heap) (I : InstAt s.heap x ox C od) (hs : findIn K (.ref C) name = some (some (.builtin id)))
    (hb : ∀ self, bindSpecial (.builtin id) self = pure (.builtin id, [self])) (h : wpAny M A (call (.builtin id) (.ref x :: args)) (fun v => Q (some v)) E s) : wpAny M A (callSpecialIfBound? (.ref x) name args) Q E s := by
  simp only [callSpecialIfBound?, bindSpecialIfBound?]
  refine wpAny_holding (wpAny_bind (wpAny_bind (wpAny_bind (I.type.here ((looks_findIn X hs).here ?_)))))
  simp only [hb]
  refine wpAny_bind (wpAny_askSetting (wpAny_ite ?_))
  have fin : wpAny M A (call (.builtin id) ([.ref x] ++ args) >>= fun v => pure (some v)) Q E s := wpAny_bind (wpAny_mono h (fun v s' h' => wpAny_pure h') fun _ _ h' => h')
  split
  · exact wpAny_bind (wpAny_pure (wpAny_pure fin))
  · exact wpAny_tryCatch (wpAny_bind (wpAny_pure (wpAny_pure fin)))
theorem objNe_K {Q : Fin → Shared → Prop} (X : K.In s.heap) (I : InstAt s.heap x ox C od) (heq : findIn K (.ref C) "__eq__" = some (some (.ref f))) (hf : isFn K (.ref f) = true) (hu : A.units < cLine)
    (hcall : wpAny (model prog w) A (call (.ref f) [.ref x, b]) (fun v s' => ∃ c, v = .bool c ∧ Q (.done (.ret (.bool (!c)))) s') E s) :
    wpAny (model prog w) A (Builtin.«object.__ne__» ⟨[.ref x, b], []⟩) Q E s := by
  unfold Builtin.«object.__ne__»
  repeat (first
    | with_reducible refine wpAny_cRoomFor hu ?_
    | (refine wpAny_bind (m := callSpecialIfBound? (.ref x) (Str.ofString "__eq__") [b])
        (ifBound_K X I heq hf (wpAny_mono hcall (fun r s' hr => by
          obtain ⟨b, rfl, hq⟩ := hr
          repeat (first | exact hq | exact wpAny_pure hq | exact wpAny_truthy_bool hq | (refine wpAny_bind (m := truthy (.bool _)) (wpAny_truthy_bool ?_)) | wp_step)) fun _ _ e => e)))
    | wp_step)
theorem ne_K {Q : Value → Shared → Prop} (hu : A.units + 1 < cLine) (Ff : Fr h₀ L s.heap m) (X₀ : K.In h₀) (I : InstAt s.heap x ox C od) (hb : Looks (model prog w) s.heap (typeOf b) tb) (hn : notFirst K C tb = true)
    (hne : findIn K (.ref C) "__ne__" = some (some (.builtin "object.__ne__"))) (heq : findIn K (.ref C) "__eq__" = some (some (.ref f))) (hf : isFn K (.ref f) = true) (cm : mroIn K C (.type "object") = some true)
    (h : wpAny (model prog w) A.in1 (call (.ref f) [.ref x, b]) (fun v s' => ∃ c, v = .bool c ∧ Q (.bool (!c)) s') E s) : wpAny (model prog w) A (richCompare .NotEq (.ref x) b) Q E s := by
  have X := X₀.keeps Ff.keep
  have one : wpAny (model prog w) A (tryCompare (.ref x) (cmpInfo .NotEq).2.1 b) (fun r s' => ∃ v, r = some v ∧ Q v s') E s := by
    unfold tryCompare
    refine wpAny_bind (ifBound_Kb (id := "object.__ne__") X I hne PySem.F.cmp_object.ne.bind (wpAny_call (codeAny_call_builtin PySem.F.cmp_object.ne.plain PySem.F.cmpEntry_ne
      (check_slot PySem.F.cmpKind_ne PySem.F.cmpSplit_ne (I.type.andThen (looks_mroIn X cm)) (PySem.F.cmpArgs_ne _ _) (objNe_K (A := A.in1) X I heq hf hu (wpAny_mono h (fun v s' hv => ?_) fun _ _ e => e))))))
    obtain ⟨c, rfl, hq⟩ := hv
    exact ⟨c, rfl, wpAny_pure ⟨_, rfl, hq⟩⟩
  unfold richCompare
  simp only [oneThing_ref]
  refine wpAny_holding (wpAny_bind (wpAny_cRoomFor (Nat.lt_of_succ_lt hu) ?_))
  refine wpAny_bind (I.type.here (wpAny_bind (hb.here ?_)))
  split
  · rename_i q
    have e : subIn K tb (.ref C) = some false := by
      rcases Bool.or_eq_true_iff.mp hn with e | e
      · rw [beq_iff_eq.mp e] at q; simp at q
      · exact beq_iff_eq.mp e
    refine wpAny_bind ((looks_subIn X e).here ?_)
    simp only [Bool.false_eq_true, if_false]
    refine wpAny_bind (wpAny_mono one (fun r s' z => ?_) fun _ _ e => e)
    obtain ⟨v, rfl, hq⟩ := z
    exact wpAny_pure hq
  · refine wpAny_bind (wpAny_pure ?_)
    simp only [Bool.false_eq_true, if_false]
    refine wpAny_bind (wpAny_mono one (fun r s' z => ?_) fun _ _ e => e)
    obtain ⟨v, rfl, hq⟩ := z
    exact wpAny_pure hq
end
end My
namespace My
open PySem PySem.Spec PyProof.Rows L2 StX PySem.W
section
variable {X : Cx} {CX : CXT} {n : Nat} {C g : Addr} {sp : Sp} {E : XK}
theorem looks_obj {M : Model} {h : Heap} {a : Addr} {o : Obj} {T : String} (e : h.get? a = some o) (c : o.cls = .type T) : Looks M h (typeOf (.ref a)) (.type T) := c ▸ (Looks.ld e).andThen .now
theorem tyX_looks {M : Model} {pins : List (Addr × Obj)} {σ : L2.St} {H : Hp} {s : Shared} {x : V} {u : Value} {T : String} (I : Inv X pins σ H s) (rx : RelV x u) (ty : TyX X.K H x (.type T)) : Looks M s.heap (typeOf u) (.type T) := by
  cases ty with
  | base b =>
    cases b with
    | non => cases (show u = Value.none from rx); exact Looks.of_pure rfl
    | bl y => cases (show u = Value.bool y from rx); exact Looks.of_pure rfl
    | int i => obtain ⟨t, q⟩ := (show ∃ t, u = Value.int i t from rx); cases q; exact Looks.of_pure rfl
    | str y => obtain ⟨t, q⟩ := (show ∃ t, u = Value.str y t from rx); cases q; exact Looks.of_pure rfl
    | flt y => obtain ⟨t, q⟩ := (show ∃ t, u = Value.float y t from rx); cases q; exact Looks.of_pure rfl
    | @lst a xs ea =>
      cases (show u = Value.ref a from rx)
      obtain ⟨_, _, n, _, h1⟩ := (show ObjOk X.prog X.w H s.heap a (.lst xs) from I.hok a _ ea)
      exact looks_obj h1 rfl
    | @frz a ob xs ea =>
      cases (show u = Value.ref a from rx)
      obtain ⟨_, _, _, n, _, h1⟩ := (show ObjOk X.prog X.w H s.heap a (.frz ob (.lst xs)) from I.hok a _ ea)
      exact looks_obj h1 rfl
    | @tup a xs ea =>
      cases (show u = Value.ref a from rx)
      obtain ⟨_, _, _, o, h1, h2, _⟩ := (show ObjOk X.prog X.w H s.heap a (.tup xs) from I.hok a _ ea)
      exact looks_obj h1 h2
    | @dK a kvs ea =>
      cases (show u = Value.ref a from rx)
      obtain ⟨_, _, vs, _, o, es, ep, h1, h2, _⟩ := (show ObjOk X.prog X.w H s.heap a (.dK kvs) from I.hok a _ ea)
      exact looks_obj h1 h2.1
    | @dT a kvs ea =>
      cases (show u = Value.ref a from rx)
      obtain ⟨_, _, xs, _, o, es, ep, h1, h2, _⟩ := (show ObjOk X.prog X.w H s.heap a (.dT kvs) from I.hok a _ ea)
      exact looks_obj h1 h2.1
  | byt y => obtain ⟨t, q⟩ := (show ∃ t, u = Value.bytes y t from rx); cases q; exact Looks.of_pure rfl
  | @set a S n ea =>
    cases (show u = Value.ref a from rx)
    obtain ⟨o, _, _, _, e, ex, _⟩ := I.hok a _ ea
    exact looks_obj e ex.1
  | @kList a o e c =>
    cases (show u = Value.ref a from rx)
    exact looks_obj (I.kIn a o e) c
  | @kTuple a o e c =>
    cases (show u = Value.ref a from rx)
    exact looks_obj (I.kIn a o e) c
  | @kDict a o e c =>
    cases (show u = Value.ref a from rx)
    exact looks_obj (I.kIn a o e) c
  | @fTuple a ob xs ea =>
    cases (show u = Value.ref a from rx)
    obtain ⟨_, _, _, _, o, h1, h2, _⟩ := (show ObjOk X.prog X.w H s.heap a (.frz ob (.tup xs)) from I.hok a _ ea)
    exact looks_obj h1 h2
  | @fDict a ob kvs ea =>
    cases (show u = Value.ref a from rx)
    obtain ⟨_, _, _, vs, _, o, es, ep, h1, h2, _⟩ := (show ObjOk X.prog X.w H s.heap a (.frz ob (.dK kvs)) from I.hok a _ ea)
    exact looks_obj h1 h2.1
theorem sub_of_kit {K : PySem.W.Frag} {T : String} (h : PySem.W.kitOne K (.type T) (.ref C) = some false) : subIn K (.type T) (.ref C) = some false := by
  unfold PySem.W.kitOne at h
  rw [if_neg (fun z => by have := beq_iff_eq.mp z; cases this)] at h
  have h2 : (if ((PySem.W.clsIn K C).isSome && PySem.W.typeIn K (.ref C) == some (.type "type")) = true then PySem.W.subIn K (.type T) (.ref C) else none) = some false := h
  split at h2
  · exact h2
  · cases h2
/-- the other side of a comparison: an instance of the same class, or a thing of a built-in type -/
def Side (K : PySem.W.Frag) (C : Addr) (y : V) (H : Hp) : Prop := (∃ b dy gs, y = .ref b ∧ H b = some (.ins C dy gs)) ∨ ∃ T : String, T ∈ ["NoneType", "bool", "int", "str", "list", "tuple", "dict"] ∧ TyX K H y (.type T)
theorem side_looks {M : Model} {pins : List (Addr × Obj)} {σ : L2.St} {H : Hp} {s : Shared} {y : V} {u : Value} (hC : IsC X.K C) (I : Inv X pins σ H s) (ry : RelV y u) (h : Side X.K C y H) : ∃ tb, Looks M s.heap (typeOf u) tb ∧ notFirst X.K C tb = true := by
  rcases h with ⟨b, dy, gs, rfl, hb⟩ | ⟨T, hT, ty⟩
  · cases (show u = Value.ref b from ry)
    obtain ⟨_, _, J'⟩ := inst_of I hb
    refine ⟨.ref C, J'.type, ?_⟩
    show ((Value.ref C == Value.ref C) || _) = true
    rw [show (Value.ref C == Value.ref C) = true from by simp, Bool.true_or]
  · refine ⟨.type T, tyX_looks I ry ty, ?_⟩
    show ((Value.type T == Value.ref C) || (subIn X.K (.type T) (.ref C) == some false)) = true
    rw [sub_of_kit (hC.no T hT)]
    simp
/-- x op y, x an instance of C, C's def for op at g -/
def rCmpO (K : PySem.W.Frag) (C : Addr) (sp : Sp) (E : XK) : R2 := fun x y H Q => ∃ a dx fs, x = .ref a ∧ H a = some (.ins C dx fs) ∧ Side K C y H ∧ sp [x, y] H Q E
theorem op_cmpO {op : CmpOp} (hop : ∀ a b, compareOp op a b = richCompare op a b) (hC : IsC X.K C) (hs : PySem.W.findIn X.K (.ref C) (cmpInfo op).2.1 = some (some (.ref g))) (hf : PySem.W.isFn X.K (.ref g) = true)
    (F : FnR X.prog X.w X.K X.mg X.base CX n g sp) (hr : Room n X.A) (hx : Passes CX X E) : OpR X (compareOp op) (rCmpO X.K C sp E) := by
  rintro pins s σ H x y v u Q I rx ry ⟨a, dx, fs, rfl, ha, hy, q⟩
  cases (show v = Value.ref a from rx)
  obtain ⟨_, _, J⟩ := inst_of I ha
  obtain ⟨m, hF⟩ := I.fr
  obtain ⟨tb, hb, hn⟩ := side_looks (M := model X.prog X.w) hC I ry hy
  rw [hop]
  exact PySem.W.cmp_K (op := op) (tb := tb) hr.units0 hF I.ok.mod.kin J hb hn hs hf
    (wpAny_mono (wpAny_call (run_fnR (us := [.ref a, u]) (vs := [.ref a, y]) F hr hx I (.cons rfl (.cons ry .nil)) q)) (fun w s' ⟨z', H', I', rz, qz⟩ => SlX.cmpback rz ⟨z', H', I', rz, qz⟩) fun _ _ x => x)
/-- x != y, C with an own == alone -/
def rNeI (K : PySem.W.Frag) (C : Addr) (sp : Sp) (E : XK) : R2 := fun x y H Q => ∃ a dx fs, x = .ref a ∧ H a = some (.ins C dx fs) ∧ Side K C y H ∧ sp [x, y] H (fun z H' => ∃ c, z = .bl c ∧ Q (.bl (!c)) H') E
theorem op_neI (hC : IsC X.K C) (hne : PySem.W.findIn X.K (.ref C) "__ne__" = some (some (.builtin "object.__ne__"))) (hs : PySem.W.findIn X.K (.ref C) "__eq__" = some (some (.ref g))) (hf : PySem.W.isFn X.K (.ref g) = true)
    (F : FnR X.prog X.w X.K X.mg X.base CX n g sp) (hr : Room (n + 1) X.A) (hx : Passes CX X E) : OpR X (compareOp .NotEq) (rNeI X.K C sp E) := by
  rintro pins s σ H x y v u Q I rx ry ⟨a, dx, fs, rfl, ha, hy, q⟩
  cases (show v = Value.ref a from rx)
  obtain ⟨_, _, J⟩ := inst_of I ha
  obtain ⟨m, hF⟩ := I.fr
  obtain ⟨tb, hb, hn⟩ := side_looks (M := model X.prog X.w) hC I ry hy
  show wpAny _ _ (richCompare .NotEq (.ref a) u) _ _ _
  have hu : X.A.units + 1 < cLine := by have := hr.un; omega
  refine ne_K (tb := tb) hu hF I.ok.mod.kin J hb hn hne hs hf hC.cm ?_
  refine wpAny_mono (wpAny_call (SlX.run_at (us := [.ref a, u]) (ws := [.ref a, y]) F hr.in1 I.env0.in1 hx I (.cons rfl (.cons ry .nil)) q)) (fun w s' z => ?_) fun _ _ x => x
  obtain ⟨z', H', I', rz, c, ec, qz⟩ := z
  subst ec
  cases (show w = Value.bool c from rz)
  exact ⟨c, rfl, .bl (!c), H', I', rfl, qz⟩
theorem op_cmpOK {K : PySem.W.Frag} {prog : Program} {w : World} {mg : Str → Option Value} {base : Heap} {op : CmpOp} (hop : ∀ a b, compareOp op a b = richCompare op a b) (hC : IsC K C) (hs : PySem.W.findIn K (.ref C) (cmpInfo op).2.1 = some (some (.ref g))) (hf : PySem.W.isFn K (.ref g) = true)
    (F : FnR prog w K mg base CX n g sp) (hr : Room n X.A) (hx : Passes CX X E) (hK : X.K = K := by rfl) (hP : X.prog = prog := by rfl) (hw : X.w = w := by rfl) (hm : X.mg = mg := by rfl) (hb : X.base = base := by rfl) : OpR X (compareOp op) (rCmpO K C sp E) := by
  subst hK hP hw hm hb
  exact op_cmpO hop hC hs hf F hr hx
theorem op_neIK {K : PySem.W.Frag} {prog : Program} {w : World} {mg : Str → Option Value} {base : Heap} (hC : IsC K C) (hne : PySem.W.findIn K (.ref C) "__ne__" = some (some (.builtin "object.__ne__"))) (hs : PySem.W.findIn K (.ref C) "__eq__" = some (some (.ref g))) (hf : PySem.W.isFn K (.ref g) = true)
    (F : FnR prog w K mg base CX n g sp) (hr : Room (n + 1) X.A) (hx : Passes CX X E) (hK : X.K = K := by rfl) (hP : X.prog = prog := by rfl) (hw : X.w = w := by rfl) (hm : X.mg = mg := by rfl) (hb : X.base = base := by rfl) : OpR X (compareOp .NotEq) (rNeI K C sp E) := by
  subst hK hP hw hm hb
  exact op_neI hC hne hs hf F hr hx
theorem op_repUK {K : PySem.W.Frag} (hK : X.K = K := by rfl) : OpR X (binaryOp .Mult) (rRepU K) := by
  subst hK
  exact op_repU
end
end My

/-! + and * of an own class with a thing of a built-in type, from either side -/
namespace My
open PySem PySem.Spec PyProof.Rows PySem.Calls PySem.W
def sevenT : List String := ["NoneType", "bool", "int", "str", "list", "tuple", "dict"]
theorem seven_find (nm : String) (hn : nm = "add" ∨ nm = "mul") {T : String} (h : T ∈ sevenT) {K : Frag} : (∃ fo, findIn K (.type T) (PySem.dunder nm) = some fo) ∧ ∃ ro, findIn K (.type T) (dunderR nm) = some ro := by
  simp only [sevenT, List.mem_cons, List.not_mem_nil, or_false] at h
  show (∃ fo, fastLookup T (PySem.dunder nm) = some fo) ∧ ∃ ro, fastLookup T (dunderR nm) = some ro
  rw [← Option.isSome_iff_exists, ← Option.isSome_iff_exists]
  rcases hn with rfl | rfl <;> rcases h with rfl | rfl | rfl | rfl | rfl | rfl | rfl <;> decide +kernel
section
variable {prog : Program} {w : World} {A : Around} {E : Value → Shared → Prop} {s : Shared} {K : Frag} {x y C L f g dx : Addr} {h₀ : Heap} {m : Str → Option Value} {ox oy : Obj} {od oe : Option Obj} {T : String}
theorem ksp_binL {op : Operator} {b : Value} {fo ro rc : Option Value} {Q : Value → Shared → Prop} (F : Fr h₀ L s.heap m) (X₀ : K.In h₀) (I : InstAt s.heap x ox C od) (hb : Looks (model prog w) s.heap (typeOf b) (.type T)) (hc : selfFirst K C = true)
    (hs : findIn K (.ref C) (PySem.dunder op.info.2) = some (some (.ref f))) (hf : isFn K (.ref f) = true) (hr : findIn K (.ref C) (dunderR op.info.2) = some rc) (hp : rc = none ∨ ∃ g : Addr, rc = some (.ref g))
    (h1 : findIn K (.type T) (PySem.dunder op.info.2) = some fo) (h2 : findIn K (.type T) (dunderR op.info.2) = some ro) (hsub : subIn K (.type T) (.ref C) = some false)
    (h : wpAny (model prog w) A (call (.ref f) [.ref x, b]) (PySem.W.CmpBack Q) E s) : wpAny (model prog w) A (binaryOp op (.ref x) b) Q E s := by
  have X := X₀.keeps F.keep
  obtain ⟨cd, rest, hcd, hm⟩ := ksp_first hc
  rcases hi : op.info with ⟨sym, nm'⟩
  rw [hi] at hs hr h1 h2
  dsimp only at hs hr h1 h2
  have one := ksp_try X I hs hf h
  obtain ⟨hh, g, d, tt, os⟩ := s
  have L1 : Looks (model prog w) hh (typeOf (.ref x)) (.ref C) := I.type
  have L2 : Looks (model prog w) hh (typeOf b) (.type T) := hb
  have L3 : Looks (model prog w) hh (fillsNumberSlot (.ref C) nm') true := fills_K X hcd hm hs
  have L4 : Looks (model prog w) hh (fillsNumberSlot (.type T) nm') ((fo.isSome && !isSeqSlot fo) || (ro.isSome && !isSeqSlot ro)) := ksp_fillsT X h1 h2
  have L5 : Looks (model prog w) hh (isSubtype (.type T) (.ref C)) false := looks_subIn X hsub
  have L6 : Looks (model prog w) hh (numberSlotInPython (.ref C) nm') true := ksp_inPy X hs hr hp
  have L7 : Looks (model prog w) hh (numberSlotInPython (.type T) nm') false := Looks.of_pure rfl
  have L8 : Looks (model prog w) hh (typeLookup (.type T) (dunderR nm')) ro := looks_findIn X h2
  generalize ((fo.isSome && !isSeqSlot fo) || (ro.isSome && !isSeqSlot ro)) = right at L4
  have hne : (Value.ref C == Value.type T) = false := Bool.eq_false_iff.mpr fun q => by cases beq_iff_eq.mp q
  simp only [binaryOp, hi]
  refine wpAny_holding (wpAny_bind ?_)
  unfold binaryOp1
  refine wpAny_bind (L1.at (wpAny_bind (L2.at (wpAny_bind (L3.at ?_)))))
  simp only [hne, Bool.false_eq_true, if_false]
  cases right with
  | false =>
    ksp_lk
    refine wpAny_mono one (fun r s' hr' => ?_) fun _ _ e => e
    obtain ⟨v, rfl, hq⟩ := hr'
    ksp_lk
    exact hq
  | true =>
    ksp_lk
    refine wpAny_mono one (fun r s' hr' => ?_) fun _ _ e => e
    obtain ⟨v, rfl, hq⟩ := hr'
    ksp_lk
    exact hq
end
end My
namespace My
open PySem PySem.Spec PyProof.Rows L2 StX
section
variable {X : Cx} {CX : CXT} {n : Nat} {C g g2 : Addr} {sp : Sp} {E : XK}
theorem seven_of {K : PySem.W.Frag} {C : Addr} (h1 : PySem.W.subIn K (.type "NoneType") (.ref C) = some false) (h2 : PySem.W.subIn K (.type "bool") (.ref C) = some false) (h3 : PySem.W.subIn K (.type "int") (.ref C) = some false) (h4 : PySem.W.subIn K (.type "str") (.ref C) = some false)
    (h5 : PySem.W.subIn K (.type "list") (.ref C) = some false) (h6 : PySem.W.subIn K (.type "tuple") (.ref C) = some false) (h7 : PySem.W.subIn K (.type "dict") (.ref C) = some false) : ∀ T ∈ sevenT, PySem.W.subIn K (.type T) (.ref C) = some false := fun T hT => by
  simp only [sevenT, List.mem_cons, List.not_mem_nil, or_false] at hT
  rcases hT with rfl | rfl | rfl | rfl | rfl | rfl | rfl <;> assumption
def rBinA (K : PySem.W.Frag) (C : Addr) (sp : Sp) (E : XK) : R2 := fun x y H Q => ∃ a dx fs, x = .ref a ∧ H a = some (.ins C dx fs) ∧ ((∃ b dy gs, y = .ref b ∧ H b = some (.ins C dy gs)) ∨ ∃ T ∈ sevenT, TyX K H y (.type T)) ∧ sp [x, y] H Q E
theorem op_binAK {K : PySem.W.Frag} {prog : Program} {w : World} {mg : Str → Option Value} {base : Heap} {op : Operator} {rc : Option Value} (hop : op = .Add ∨ op = .Mult) (hc : PySem.W.selfFirst K C = true) (hr0 : PySem.W.findIn K (.ref C) (dunderR op.info.2) = some rc) (hp : rc = none ∨ ∃ g : Addr, rc = some (.ref g))
    (hsub : ∀ T ∈ sevenT, PySem.W.subIn K (.type T) (.ref C) = some false) (hs : PySem.W.findIn K (.ref C) (PySem.dunder op.info.2) = some (some (.ref g))) (hf : PySem.W.isFn K (.ref g) = true)
    (F : FnR prog w K mg base CX n g sp) (hr : Room n X.A) (hx : Passes CX X E) (hK : X.K = K := by rfl) (hP : X.prog = prog := by rfl) (hw : X.w = w := by rfl) (hm : X.mg = mg := by rfl) (hb : X.base = base := by rfl) : OpR X (binaryOp op) (rBinA K C sp E) := by
  subst hK hP hw hm hb
  rintro pins s σ H x y v u Q I rx ry ⟨a, dx, fs, rfl, ha, hy, q⟩
  cases (show v = Value.ref a from rx)
  obtain ⟨_, _, J⟩ := inst_of I ha
  obtain ⟨m, hF⟩ := I.fr
  rcases hy with ⟨b, dy, gs, rfl, hb⟩ | ⟨T, hT, ty⟩
  · cases (show u = Value.ref b from ry)
    obtain ⟨_, _, J'⟩ := inst_of I hb
    exact ksp_binC hF I.ok.mod.kin J J' hc hs hf
      (wpAny_mono (wpAny_call (run_fnR (us := [.ref a, .ref b]) (vs := [.ref a, .ref b]) F hr hx I (.cons rfl (.cons ry .nil)) q)) (fun w s' ⟨z', H', I', rz, qz⟩ => SlX.cmpback rz ⟨z', H', I', rz, qz⟩) fun _ _ x => x)
  · have hnm : op.info.2 = "add" ∨ op.info.2 = "mul" := by rcases hop with rfl | rfl <;> simp [Operator.info]
    obtain ⟨⟨fo, h1⟩, ro, h2⟩ := seven_find op.info.2 hnm hT (K := X.K)
    exact ksp_binL hF I.ok.mod.kin J (tyX_looks I ry ty) hc hs hf hr0 hp h1 h2 (hsub T hT)
      (wpAny_mono (wpAny_call (run_fnR (us := [.ref a, u]) (vs := [.ref a, y]) F hr hx I (.cons rfl (.cons ry .nil)) q)) (fun w s' ⟨z', H', I', rz, qz⟩ => SlX.cmpback rz ⟨z', H', I', rz, qz⟩) fun _ _ x => x)
end
end My

/-! OPK: anything * instance by its `__rmul__` (or `__mul__` of an instance at the left); in and not in of an own class -/
namespace My
open PySem PySem.Spec PyProof.Rows PySem.Calls PySem.W
section
variable {prog : Program} {w : World} {A : Around} {E : Value → Shared → Prop} {s : Shared} {K : Frag} {x y C L f g dx : Addr} {h₀ : Heap} {m : Str → Option Value} {ox oy : Obj} {od oe : Option Obj} {T : String} {a : Value}
theorem bool_mul_meets {n : Bool} : MeetsIn prog w (Builtin.«int.__mul__» ⟨[.bool n, .ref y], []⟩) (fun _ R s => s.heap.get? y = some (instObj C dx) ∧ R (.ok (.ret .notImplemented)) s) := by
  intro A R s ⟨hy, hR⟩
  obtain ⟨hp, g, d, tk, os⟩ := s
  unfold Builtin.«int.__mul__» Builtin.Int.intBinary
  refine wpAny_bind (wpAny_pure ?_)
  refine wpAny_bind (wpAny_pure ?_)
  refine wpAny_bind ?_
  show wpAny _ _ (asInt? (.ref y)) _ _ _
  unfold asInt?
  refine wpAny_bind (wpAny_loadPart hy ?_)
  refine wpAny_pure ?_
  exact wpAny_bind (wpAny_rule (wpAny_pure hR))
theorem bool_mul_no {n : Bool} {Q : Value → Shared → Prop} (hy : s.heap.get? y = some (instObj C dx)) (q : Q .notImplemented s) : wpAny (model prog w) A (call (.builtin "int.__mul__") [.bool n, .ref y]) Q E s := by
  have g := bool_mul_meets (prog := prog) (w := w) (y := y) (C := C) (dx := dx) (n := n)
  have ar := PySem.F.args_int_mul_2 (.bool n) (.ref y)
  have en := PySem.F.entry_int_mul
  generalize Builtin.«int.__mul__» = B at g en
  exact call_meetsIn PySem.F.slot_bool_mul rfl en ar g ⟨hy, q⟩
set_option maxHeartbeats 4000000 in
/-- the left's own slot declines -/
theorem ksp_mulD {Q : Value → Shared → Prop} (F : Fr h₀ L s.heap m) (X₀ : K.In h₀) (I : InstAt s.heap y oy C oe) (hc : selfFirst K C = true)
    (ht : typeOf a = pure (.type T)) (fl : fillsNumberSlot (.type T) "mul" = pure true) (dec : ∀ {Q' : Option Value → Shared → Prop}, Q' none s → wpAny (model prog w) A (tryMethod a (PySem.dunder "mul") (.ref y)) Q' E s)
    (hm' : findIn K (.ref C) (PySem.dunder "mul") = some (some (.ref g))) (hs : findIn K (.ref C) (dunderR "mul") = some (some (.ref f))) (hf : isFn K (.ref f) = true) (hsub : subIn K (.ref C) (.type T) = some false)
    (h : wpAny (model prog w) A (call (.ref f) [.ref y, a]) (PySem.W.CmpBack Q) E s) : wpAny (model prog w) A (binaryOp .Mult a (.ref y)) Q E s := by
  have X := X₀.keeps F.keep
  obtain ⟨cd, rest, hcd, hm⟩ := ksp_first hc
  have one : wpAny (model prog w) A (tryMethod (.ref y) (dunderR "mul") a) (fun r s' => ∃ v, r = some v ∧ Q v s') E s := ksp_try X I hs hf h
  obtain ⟨hh, g', d, tt, os⟩ := s
  have L1 : Looks (model prog w) hh (typeOf a) (.type T) := Looks.of_pure ht
  have L2 : Looks (model prog w) hh (typeOf (.ref y)) (.ref C) := I.type
  have L3 : Looks (model prog w) hh (fillsNumberSlot (.ref C) "mul") true := fills_K X hcd hm hm'
  have L4 : Looks (model prog w) hh (fillsNumberSlot (.type T) "mul") true := Looks.of_pure fl
  have L5 : Looks (model prog w) hh (isSubtype (.ref C) (.type T)) false := looks_subIn X hsub
  have L7 : Looks (model prog w) hh (numberSlotInPython (.type T) "mul") false := Looks.of_pure rfl
  have hne : (Value.type T == Value.ref C) = false := Bool.eq_false_iff.mpr fun q => by cases beq_iff_eq.mp q
  simp only [binaryOp]
  refine wpAny_holding ?_
  show wpAny _ _ (binaryOp1 "mul" a (.ref y) >>= _) _ _ _
  refine wpAny_bind ?_
  unfold binaryOp1
  refine wpAny_bind (L1.at (wpAny_bind (L2.at (wpAny_bind (L4.at ?_)))))
  simp only [hne, Bool.false_eq_true, if_false]
  refine wpAny_bind (L3.at ?_)
  simp only [Bool.and_self, if_true]
  refine wpAny_bind (L5.at ?_)
  simp only [Bool.false_eq_true, if_false, pure_bind, Bool.not_false, Bool.and_self, if_true]
  refine wpAny_bind (L7.at ?_)
  simp only [Bool.false_eq_true, if_false, pure_bind, Bool.not_false, Bool.and_self, if_true]
  refine wpAny_bind (dec ?_)
  ksp_lk
  refine wpAny_mono one (fun r s' hr' => ?_) fun _ _ e => e
  obtain ⟨v, rfl, hq⟩ := hr'
  ksp_lk
  exact hq
set_option maxHeartbeats 4000000 in
theorem ksp_mulB {n : Bool} {Q : Value → Shared → Prop} (F : Fr h₀ L s.heap m) (X₀ : K.In h₀) (hy : s.heap.get? y = some (instObj C dx)) (I : InstAt s.heap y oy C oe) (hc : selfFirst K C = true)
    (hm' : findIn K (.ref C) (PySem.dunder "mul") = some (some (.ref g))) (hs : findIn K (.ref C) (dunderR "mul") = some (some (.ref f))) (hf : isFn K (.ref f) = true) (hsub : subIn K (.ref C) (.type "bool") = some false)
    (h : wpAny (model prog w) A (call (.ref f) [.ref y, .bool n]) (PySem.W.CmpBack Q) E s) : wpAny (model prog w) A (binaryOp .Mult (.bool n) (.ref y)) Q E s := by
  have dec : ∀ {Q' : Option Value → Shared → Prop}, Q' none s → wpAny (model prog w) A (tryMethod (.bool n) (PySem.dunder "mul") (.ref y)) Q' E s := by
    intro Q' q
    refine wpAny_tryMethod_declines (PySem.typeIs_bool s n) PySem.F.slot_bool_mul ?_
    exact bool_mul_no hy ⟨rfl, q⟩
  have ht : typeOf (.bool n) = pure (.type "bool") := rfl
  exact ksp_mulD F X₀ I hc ht PySem.F.fills_bool_mul dec hm' hs hf hsub h
set_option maxHeartbeats 4000000 in
/-- the left has no slot -/
theorem ksp_mulF {fo ro : Option Value} {Q : Value → Shared → Prop} (F : Fr h₀ L s.heap m) (X₀ : K.In h₀) (I : InstAt s.heap y oy C oe) (hc : selfFirst K C = true) (hb : Looks (model prog w) s.heap (typeOf a) (.type T))
    (h1 : findIn K (.type T) (PySem.dunder "mul") = some fo) (h2 : findIn K (.type T) (dunderR "mul") = some ro) (hn : ((fo.isSome && !isSeqSlot fo) || (ro.isSome && !isSeqSlot ro)) = false)
    (hm' : findIn K (.ref C) (PySem.dunder "mul") = some (some (.ref g))) (hs : findIn K (.ref C) (dunderR "mul") = some (some (.ref f))) (hf : isFn K (.ref f) = true)
    (h : wpAny (model prog w) A (call (.ref f) [.ref y, a]) (PySem.W.CmpBack Q) E s) : wpAny (model prog w) A (binaryOp .Mult a (.ref y)) Q E s := by
  have X := X₀.keeps F.keep
  obtain ⟨cd, rest, hcd, hm⟩ := ksp_first hc
  have one : wpAny (model prog w) A (tryMethod (.ref y) (dunderR "mul") a) (fun r s' => ∃ v, r = some v ∧ Q v s') E s := ksp_try X I hs hf h
  obtain ⟨hh, g', d, tt, os⟩ := s
  have L2 : Looks (model prog w) hh (typeOf (.ref y)) (.ref C) := I.type
  have L3 : Looks (model prog w) hh (fillsNumberSlot (.ref C) "mul") true := fills_K X hcd hm hm'
  have L4 : Looks (model prog w) hh (fillsNumberSlot (.type T) "mul") ((fo.isSome && !isSeqSlot fo) || (ro.isSome && !isSeqSlot ro)) := ksp_fillsT X h1 h2
  rw [hn] at L4
  have hne : (Value.type T == Value.ref C) = false := Bool.eq_false_iff.mpr fun q => by cases beq_iff_eq.mp q
  simp only [binaryOp]
  refine wpAny_holding ?_
  show wpAny _ _ (binaryOp1 "mul" a (.ref y) >>= _) _ _ _
  refine wpAny_bind ?_
  unfold binaryOp1
  refine wpAny_bind (hb.at (wpAny_bind (L2.at (wpAny_bind (L4.at ?_)))))
  simp only [hne, Bool.false_eq_true, if_false]
  refine wpAny_bind (L3.at ?_)
  ksp_lk
  refine wpAny_mono one (fun r s' hr' => ?_) fun _ _ e => e
  obtain ⟨v, rfl, hq⟩ := hr'
  ksp_lk
  exact hq
end
def fourT : List String := ["NoneType", "str", "list", "tuple"]
theorem four_find {T : String} (h : T ∈ fourT) {K : Frag} : ∃ fo ro, findIn K (.type T) (PySem.dunder "mul") = some fo ∧ findIn K (.type T) (dunderR "mul") = some ro ∧ ((fo.isSome && !isSeqSlot fo) || (ro.isSome && !isSeqSlot ro)) = false := by
  simp only [fourT, List.mem_cons, List.not_mem_nil, or_false] at h
  have key : ∀ T : String, (match fastLookup T (PySem.dunder "mul"), fastLookup T (dunderR "mul") with | some fo, some ro => !((fo.isSome && !isSeqSlot fo) || (ro.isSome && !isSeqSlot ro)) | _, _ => false) = true →
      ∃ fo ro, findIn K (.type T) (PySem.dunder "mul") = some fo ∧ findIn K (.type T) (dunderR "mul") = some ro ∧ ((fo.isSome && !isSeqSlot fo) || (ro.isSome && !isSeqSlot ro)) = false := by
    intro T e
    show ∃ fo ro, fastLookup T (PySem.dunder "mul") = some fo ∧ fastLookup T (dunderR "mul") = some ro ∧ _
    generalize fastLookup T (PySem.dunder "mul") = a at e
    generalize fastLookup T (dunderR "mul") = b at e
    cases a with
    | none => cases e
    | some fo =>
      cases b with
      | none => cases e
      | some ro => exact ⟨fo, ro, rfl, rfl, (Bool.not_eq_true' _).mp e⟩
  rcases h with rfl | rfl | rfl | rfl <;> exact key _ (by decide +kernel)
end My
namespace My
open PySem PySem.Spec PyProof.Rows L2 StX
section
variable {X : Cx} {CX : CXT} {n n' : Nat} {C g g2 : Addr} {sp spr : Sp} {E : XK}
def rMulA (K : PySem.W.Frag) (C : Addr) (sp spr : Sp) (E : XK) : R2 := fun x y H Q => ∃ b dy gs, y = .ref b ∧ H b = some (.ins C dy gs) ∧
  ((∃ a dx fs, x = .ref a ∧ H a = some (.ins C dx fs) ∧ sp [x, y] H Q E) ∨ (((∃ i, x = .int i) ∨ (∃ k, x = .bl k) ∨ ∃ T ∈ fourT, TyX K H x (.type T)) ∧ spr [y, x] H Q E))
theorem op_mulAK {K : PySem.W.Frag} {prog : Program} {w : World} {mg : Str → Option Value} {base : Heap} (hc : PySem.W.selfFirst K C = true) (hm' : PySem.W.findIn K (.ref C) "__mul__" = some (some (.ref g2))) (hf' : PySem.W.isFn K (.ref g2) = true)
    (hsub : PySem.W.subIn K (.ref C) (.type "int") = some false) (hsub' : PySem.W.subIn K (.ref C) (.type "bool") = some false)
    (hs : PySem.W.findIn K (.ref C) "__rmul__" = some (some (.ref g))) (hf : PySem.W.isFn K (.ref g) = true)
    (F' : FnR prog w K mg base CX n' g2 sp) (hr' : Room n' X.A) (F : FnR prog w K mg base CX n g spr) (hr : Room n X.A) (hx : Passes CX X E) (hK : X.K = K := by rfl) (hP : X.prog = prog := by rfl) (hw : X.w = w := by rfl) (hm : X.mg = mg := by rfl) (hb : X.base = base := by rfl) :
    OpR X (binaryOp .Mult) (rMulA K C sp spr E) := by
  subst hK hP hw hm hb
  have e1 : PySem.dunder "mul" = ("__mul__" : Str) := by decide +kernel
  have e2 : dunderR "mul" = ("__rmul__" : Str) := by decide +kernel
  rintro pins s σ H x y v u Q I rx ry ⟨b, dy, gs, rfl, hb, q⟩
  cases (show u = Value.ref b from ry)
  obtain ⟨mA, O, _⟩ := ins_get I.hok hb
  obtain ⟨_, _, J⟩ := inst_of I hb
  obtain ⟨m, hF⟩ := I.fr
  rcases q with ⟨a, dx, fs, rfl, ha, q⟩ | ⟨hx', q⟩
  · cases (show v = Value.ref a from rx)
    obtain ⟨_, _, J'⟩ := inst_of I ha
    exact ksp_binC hF I.ok.mod.kin J' J hc (by show PySem.W.findIn _ _ (PySem.dunder "mul") = _; rw [e1]; exact hm') hf'
      (wpAny_mono (wpAny_call (run_fnR (us := [.ref a, .ref b]) (vs := [.ref a, .ref b]) F' hr' hx I (.cons rx (.cons ry .nil)) q)) (fun w s' ⟨z', H', I', rz, qz⟩ => SlX.cmpback rz ⟨z', H', I', rz, qz⟩) fun _ _ x => x)
  · have run : wpAny (model X.prog X.w) X.A (call (.ref g) [.ref b, v]) (PySem.W.CmpBack (EP X pins σ Q)) X.xe s := wpAny_mono (wpAny_call (run_fnR (us := [.ref b, v]) (vs := [.ref b, x]) F hr hx I (.cons ry (.cons rx .nil)) q)) (fun w s' ⟨z', H', I', rz, qz⟩ => SlX.cmpback rz ⟨z', H', I', rz, qz⟩) fun _ _ x => x
    rcases hx' with ⟨i, rfl⟩ | ⟨k, rfl⟩ | ⟨T, hT, ty⟩
    · obtain ⟨t, rfl⟩ := (show ∃ t, v = Value.int i t from rx)
      exact ksp_mulR hF I.ok.mod.kin O.obj J hc (by rw [e1]; exact hm') (by rw [e2]; exact hs) hf hsub run
    · cases (show v = Value.bool k from rx)
      exact ksp_mulB hF I.ok.mod.kin O.obj J hc (by rw [e1]; exact hm') (by rw [e2]; exact hs) hf hsub' run
    · obtain ⟨fo, ro, h1, h2, hn⟩ := four_find (K := X.K) hT
      exact ksp_mulF hF I.ok.mod.kin J hc (tyX_looks I rx ty) h1 h2 hn (by rw [e1]; exact hm') (by rw [e2]; exact hs) hf run
/-- x in c, by c's own `__contains__`, which answers a bool -/
def rInI (C : Addr) (sp : Sp) (E : XK) : R2 := fun x y H Q => ∃ b dy gs, y = .ref b ∧ H b = some (.ins C dy gs) ∧ sp [y, x] H (fun v H' => ∃ k, v = .bl k ∧ Q (.bl k) H') E
theorem op_inIK {K : PySem.W.Frag} {prog : Program} {w : World} {mg : Str → Option Value} {base : Heap} (hs : PySem.W.findIn K (.ref C) "__contains__" = some (some (.ref g))) (hf : PySem.W.isFn K (.ref g) = true)
    (F : FnR prog w K mg base CX n g sp) (hr : Room n X.A) (hx : Passes CX X E) (hK : X.K = K := by rfl) (hP : X.prog = prog := by rfl) (hw : X.w = w := by rfl) (hm : X.mg = mg := by rfl) (hb : X.base = base := by rfl) : OpR X (compareOp .In) (rInI C sp E) := by
  subst hK hP hw hm hb
  rintro pins s σ H x y v u Q I rx ry ⟨b, dy, gs, rfl, hb, q⟩
  cases (show u = Value.ref b from ry)
  obtain ⟨_, _, J⟩ := inst_of I hb
  obtain ⟨m, hF⟩ := I.fr
  refine PySem.W.in_K hF I.ok.mod.kin J hs hf (wpAny_mono (wpAny_call (run_fnR (us := [.ref b, v]) (vs := [.ref b, x]) F hr hx I (.cons ry (.cons rx .nil)) q)) (fun w s' hq => ?_) fun _ _ x => x)
  obtain ⟨z', H', I', rz, k, rfl, qz⟩ := hq
  cases (show w = Value.bool k from rz)
  exact wpAny_truthy_bool ⟨.bl k, H', I', rfl, qz⟩
def rNotInI (C : Addr) (sp : Sp) (E : XK) : R2 := fun x y H Q => ∃ b dy gs, y = .ref b ∧ H b = some (.ins C dy gs) ∧ sp [y, x] H (fun v H' => ∃ k, v = .bl k ∧ Q (.bl !k) H') E
theorem op_notInIK {K : PySem.W.Frag} {prog : Program} {w : World} {mg : Str → Option Value} {base : Heap} (hs : PySem.W.findIn K (.ref C) "__contains__" = some (some (.ref g))) (hf : PySem.W.isFn K (.ref g) = true)
    (F : FnR prog w K mg base CX n g sp) (hr : Room n X.A) (hx : Passes CX X E) (hK : X.K = K := by rfl) (hP : X.prog = prog := by rfl) (hw : X.w = w := by rfl) (hm : X.mg = mg := by rfl) (hb : X.base = base := by rfl) : OpR X (compareOp .NotIn) (rNotInI C sp E) := by
  subst hK hP hw hm hb
  rintro pins s σ H x y v u Q I rx ry ⟨b, dy, gs, rfl, hb, q⟩
  cases (show u = Value.ref b from ry)
  obtain ⟨_, _, J⟩ := inst_of I hb
  obtain ⟨m, hF⟩ := I.fr
  refine PySem.W.notIn_K hF I.ok.mod.kin J hs hf (wpAny_mono (wpAny_call (run_fnR (us := [.ref b, v]) (vs := [.ref b, x]) F hr hx I (.cons ry (.cons rx .nil)) q)) (fun w s' hq => ?_) fun _ _ x => x)
  obtain ⟨z', H', I', rz, k, rfl, qz⟩ := hq
  cases (show w = Value.bool k from rz)
  exact wpAny_truthy_bool ⟨.bl (!k), H', I', rfl, qz⟩
end
end My

/-! t * k of any tuple, of up to 2,000 things when made: out of op_repA, op_repU and the three short roads -/
namespace My
open PySem PySem.Spec PyProof.Rows L2
def rRepB (K : PySem.W.Frag) : R2 := fun x y H Q => ∃ (a : Addr) (n : Nat) (xs : List V), x = .ref a ∧ y = .int (n : Int) ∧ SqT K H a xs ∧ n ≤ 2000 ∧ xs.length ≤ 2000 ∧ xs.length * n ≤ 2000 ∧
  ∀ b H', Same H H' → SqT K H' b (List.replicate n xs).flatten → Q (.ref b) H'
theorem flat_one {α : Type} (z : α) : ∀ n : Nat, (List.replicate n [z]).flatten = List.replicate n z
  | 0 => rfl
  | n + 1 => by rw [List.replicate_succ, List.flatten_cons, flat_one z n, List.replicate_succ]; rfl
set_option maxHeartbeats 4000000 in
theorem op_repB {X : Cx} : OpR X (binaryOp .Mult) (rRepB X.K) := by
  intro pins st σ H x y v u Q I rx ry want
  obtain ⟨a, n, xs, rfl, rfl, seq, few, short, hp, q⟩ := want
  by_cases hs : n ≤ 1000 ∧ xs.length ≤ 1000
  · exact op_repA pins st σ H _ _ v u Q I rx ry ⟨a, n, xs, rfl, rfl, seq, hs.1, hs.2, q⟩
  by_cases h1 : xs.length = 1
  · by_cases h0 : 1 ≤ n
    · match xs, h1 with
      | [z], _ => exact op_repU pins st σ H _ _ v u Q I rx ry ⟨a, n, z, rfl, rfl, seq, h0, by omega, fun b H' s hb => q b H' s (by rw [flat_one]; exact hb)⟩
    · exact absurd ⟨by omega, by omega⟩ hs
  have rest : xs = [] ∨ n = 0 ∨ n = 1 := by
    rcases Nat.lt_or_ge n 2 with h | h
    · omega
    · left
      match xs, h1 with
      | [], _ => rfl
      | [_], h1 => exact absurd rfl h1
      | y :: z :: r, _ =>
        exfalso
        apply hs
        have e : (y :: z :: r).length * 2 ≤ (y :: z :: r).length * n := Nat.mul_le_mul_left _ h
        have e2 : 2 * n ≤ (y :: z :: r).length * n := Nat.mul_le_mul_right _ (by simp [List.length_cons])
        constructor <;> omega
  cases rx
  obtain ⟨tk, rfl⟩ := ry
  obtain ⟨vals, rel, ⟨⟨cl, dict, data, slots⟩, found, isT, m, isS⟩, small⟩ := I.tuple seq
  simp only at isT isS
  subst isT isS
  have bound : (decide ((n : Int) < -(2 ^ 63)) || decide ((n : Int) ≥ 2 ^ 63)) = false := by
    rw [decide_eq_false (by omega), decide_eq_false (by omega)]
    rfl
  refine wpAny_binaryOp_repeat_ref (T := "tuple") (U := "int") (by decide) ⟨_, found, rfl⟩ (fun s2 => typeIs_int s2 (n : Int) tk)
    noFill_tuple_mul F.fills_int_mul F.slot_int_rmul
    repeat_tuple F.slot_int_index.lookup ?_
  refine call_meets F.slot_int_rmul (typeIs_int st (n : Int) tk) F.entry_int_rmul (F.args_int_rmul_2 _ _)
    (int_rmul_tuple (n : Int) tk a vals.toArray m dict slots) ⟨found, rfl, ⟨_, found, rfl⟩, ?_⟩
  by_cases hx : xs = []
  · subst hx
    cases rel
    refine call_meets F.slot_tuple_mul ⟨_, found, rfl⟩ F.entry_tuple_mul (F.args_tuple_mul_2 _ _) (mul_nil a m dict slots (n : Int) tk bound) ⟨found, ?_⟩
    exact ⟨.ref a, H, I, rfl, q a H (Same.refl H) (by rw [flat_nil]; exact seq)⟩
  · rcases rest.resolve_left hx with rfl | rfl
    · have full : vals.toArray.isEmpty = false := by
        cases rel with
        | nil => exact absurd rfl hx
        | cons _ _ => rfl
      refine call_meets F.slot_tuple_mul ⟨_, found, rfl⟩ F.entry_tuple_mul (F.args_tuple_mul_2 _ _) (mul_zero a vals.toArray m dict slots tk full) ⟨found, ?_⟩
      refine ⟨.ref st.heap.objs.size, _, I.laid (t' := st.toks) (o := .tup []) (fun b ob q => Heap.get?_push_of_some _ q) (Nat.le_refl _) ?_, rfl, q _ _ (same_new (I.hok.fresh (Nat.le_refl _))) (.inl (.inl upd_same))⟩
      exact ⟨Nat.zero_le _, [], .nil, IsTup.new _ _⟩
    · refine call_meets F.slot_tuple_mul ⟨_, found, rfl⟩ F.entry_tuple_mul (F.args_tuple_mul_2 _ _) (mul_one a vals.toArray m dict slots tk) ⟨found, ?_⟩
      exact ⟨.ref a, H, I, rfl, q a H (Same.refl H) (by simpa using seq)⟩
end My

/-! NQL: != of two lists whose items are equal by their own == -/
namespace GQ
open PySem PySem.SeqAt
open AutoSeq1 (wpAny_loadPart')
open MeetsSeq MeetsSeq2 MeetsSeq3 SeqRoads2
section
variable {prog : Program} {w : World} {A : Around} {R : Result → Shared → Prop}
theorem ne_loopG' (l b : Addr) (N : Nat) (I : Nat → Shared → Prop) (hl : ListI prog w A (fun e s' => R (.error e) s') l b N I)
    (fin : ∀ s, I N s → R (.ok (.ret (.bool false))) s) (k : Nat) :
    ∀ i : Nat, N - i = k → i ≤ N → ∀ s, I i s →
      wpAny (model prog w) A.in1 (Builtin.«list.__eq__.loop» ⟨[.ref l, .ref b, rawInt i, rawInt 3], []⟩) (FinOf prog w A R) (fun e s' => R (.error e) s') s := by
  induction k with
  | zero =>
    intro i hk hi s h
    obtain ⟨items, items2, n, n2, hl1, hb1, hs1, hs2, _⟩ := hl _ _ h
    have hi' : i = N := by omega
    have hR : R (.ok (.ret (.bool false))) s := fin s (hi' ▸ h)
    obtain ⟨hp, g, d, tk, os⟩ := s
    wp_walk using wpAny_loadPart' hl1, wpAny_loadPart' hb1
    have hi1 : items[((i : Nat) : Int).toNat]? = none := by simp; omega
    have hi2 : items2[((i : Nat) : Int).toNat]? = none := by simp; omega
    rw [hi1, hi2]
    wp_walk using wpAny_loadPart' hl1, wpAny_loadPart' hb1
    show R (.ok (.ret (.bool (items.size != items2.size)))) _
    rw [hs1, hs2]
    simpa using hR
  | succ k ih =>
    intro i hk hi s h
    obtain ⟨items, items2, n, n2, hl1, hb1, hs1, hs2, turn⟩ := hl _ _ h
    have hlt : i < items.size := by omega
    have hlt2 : i < items2.size := by omega
    have ht := turn hlt hlt2
    obtain ⟨hp, g, d, tk, os⟩ := s
    wp_walk using wpAny_loadPart' hl1, wpAny_loadPart' hb1
    have hi1 : items[((i : Nat) : Int).toNat]? = some items[i] := by simp [hlt]
    have hi2 : items2[((i : Nat) : Int).toNat]? = some items2[i] := by simp [hlt2]
    have hc : ((i : Int) + 1) = ((i + 1 : Nat) : Int) := by omega
    rw [hi1, hi2]
    refine wpAny_bind (wpAny_mono ht (fun r s2 h2 => ?_) fun _ _ x => x)
    obtain ⟨hr, h2⟩ := h2
    subst hr
    have hrec := ih (i + 1) (by omega) (by omega) s2 h2
    obtain ⟨hp2, g2, d2, tk2, os2⟩ := s2
    wp_walk
    rw [hc]
    exact ⟨plainId_quiet plain_eq_loop _, codeAny_builtin entry_eq_loop (by
      rw [Around.under_plainId plain_eq_loop _]
      exact hrec)⟩
theorem list_neG' (l b : Addr) (N : Nat) (I : Nat → Shared → Prop) (hl : ListI prog w A (fun e s' => R (.error e) s') l b N I)
    (fin : ∀ s, I N s → R (.ok (.ret (.bool false))) s) {s : Shared} (h : I 0 s) :
    wpAny (model prog w) A.in1 (Builtin.«list.__ne__» ⟨[.ref l, .ref b], []⟩) (FinOf prog w A R) (fun e s' => R (.error e) s') s := by
  obtain ⟨items, items2, n, n2, hl1, hb1, hs1, hs2, _⟩ := hl _ _ h
  have hrec := ne_loopG' (A := A) (R := R) l b N I hl fin _ 0 rfl (Nat.zero_le _) s h
  obtain ⟨hp, g, d, tk, os⟩ := s
  have f3 := AutoSeq1.sub_list_list
  have hne : ¬ (items.size != items2.size) = true := by simp [hs1, hs2]
  wp_walk using wpAny_loadPart' hl1, wpAny_loadPart' hb1
  exact ⟨plainId_quiet plain_eq_loop _, codeAny_builtin entry_eq_loop (by
    rw [Around.under_plainId plain_eq_loop _]
    exact hrec)⟩
end
section
variable {prog : Program} {w : World} {A : Around} {E : Value → Shared → Prop} {s : Shared}
theorem rc_nlistG {l b : Addr} {N : Nat} {Q : Value → Shared → Prop} (hu : A.units < cLine) (I : Nat → Shared → Prop) (hl : ListI prog w A E l b N I)
    (fin : ∀ s, I N s → Q (.bool false) s) (h : I 0 s) : wpAny (model prog w) A (richCompare .NotEq (.ref l) (.ref b)) Q E s := by
  obtain ⟨items, items2, n, n2, hl1, hb1, _, _, _⟩ := hl _ _ h
  refine wpAny_richCompare_same_room (op := .NotEq) ⟨_, hl1, rfl⟩ ⟨_, hb1, rfl⟩ F.slot_list_ne (call_here F.slot_list_ne ⟨_, hl1, rfl⟩ F.entry_list_ne (F.args_list_ne_2 _ _) ?_) hu
  exact list_neG' (R := wants (fun v s' => v ≠ .notImplemented ∧ Q v s') E) l b N I hl (fun s' q => ⟨(fun x => nomatch x), fin s' q⟩) h
end
end GQ
namespace My
open PySem PySem.Spec PyProof.Rows L2
section
variable {X : Cx} {n : Nat} {D : Eqv}
def rNeG (D : Eqv) : R2 := fun x y H Q => D x y H ∧ ∀ H', L2.Ext H H' → Q (.bl false) H'
theorem op_neGL (hD : Mon D) (h : EqG X n D) (hr : Room (n + 1) X.A) : OpR X (compareOp .NotEq) (rNeG (DList D)) := by
  intro pins s σ H x y v u Q I rx ry hq
  obtain ⟨d, q⟩ := hq
  show wpAny (model X.prog X.w) X.A (richCompare .NotEq v u) (EP X pins σ Q) X.xe s
  obtain ⟨a, b, xs, ys, rfl, rfl, ha, hb, p⟩ := d
  cases rx
  cases ry
  have sb : Sub X (n + 1) X.A := ⟨hr, rfl⟩
  refine GQ.rc_nlistG (N := xs.length) sb.room.units0 (fun _ s' => LoopI X pins σ H s') (fun i s' q' => ?_) (fun s' q' => ?_) ⟨H, I, Ext.rfl'⟩
  · obtain ⟨H1, I1, e1⟩ := id q'
    obtain ⟨z, its, k, r, e⟩ := I1.hok a _ (e1 _ _ ha)
    obtain ⟨z2, its2, k2, r2, e2⟩ := I1.hok b _ (e1 _ _ hb)
    refine ⟨its.toArray, its2.toArray, k, k2, e, e2, by rw [List.size_toArray, ← r.length], by rw [List.size_toArray, ← r2.length, ← p.1], fun h1 h2 => ?_⟩
    exact turnG hD h sb p r r2 i h1 h2 s' q'
  · obtain ⟨H', I', e⟩ := q'
    exact ⟨.bl false, H', I', rfl, q H' e⟩
end
end My

/-! CG0: f(), f writing out data (FnG) -/
namespace My
open PySem PySem.Spec PyProof.Rows L2
theorem pe_callG0 {X : Cx} {k : Nat} {f : Addr} {fd : FuncData} {ps : List Str} {sp : Sp} {ds : List Value} {dvs : List V} {E : XK} {x : Str} {p pos : Pos}
    (F : FnG X.prog X.w X.K X.mg X.base k f fd ps sp) (hgd : X.A.guards = some []) (hr : Room k X.A) (hg : Gl X x) (hm : X.mg x = some (.ref f)) (hk : PySem.W.keepIn X.K (.ref f) = true)
    (hb : Binds X.K fd ps ds) (hd : Vals dvs ds) (hx : Passes CX0 X E) (hdb : (x == ("__debug__" : Str)) = false := by decide) :
    PE X (.Call (.Name x p) [] [] pos) (tCall sp dvs E tNil) := by
  refine ⟨fun pins s σ H Q I h => wpAny_Call_Name_kw (ld_glob I hg hm ?_ hdb)⟩
  exact PySem.W.callWith_K0 I.kIn hk (goG (us := []) F hgd hr hb hd hx I .nil h)
end My

namespace My
open PySem PySem.Spec PyProof.Rows L2
def top (i : Nat) : Stmt := PySem.Challenge.pw_stepsound_k42_clips_repeated_and_appende.main.body.getD i (.Pass ⟨0, 0, 0, 0⟩)
abbrev s_wall : Stmt := top 0
abbrev s_is_integer : Stmt := top 12
abbrev s_is_between : Stmt := top 13
abbrev s_is_pair : Stmt := top 14
abbrev s_is_code : Stmt := top 15
abbrev s_is_place : Stmt := top 16
abbrev s_is_state : Stmt := top 17
abbrev s_need_state : Stmt := top 18
abbrev s_need_row : Stmt := top 19
abbrev s_need_few_states : Stmt := top 20
abbrev s_all_states : Stmt := top 22
abbrev s_rounded : Stmt := top 23
abbrev s_limited : Stmt := top 24
abbrev s_change_at : Stmt := top 25
abbrev s_faded : Stmt := top 26
abbrev s_state_behind : Stmt := top 27
abbrev s_state_behind_row : Stmt := top 28
abbrev s_samples_along : Stmt := top 29
abbrev s_need_coder : Stmt := top 31
abbrev s_first_fault : Stmt := top 32
abbrev s_fault_of_steps : Stmt := top 33
abbrev s_fault_of_moves : Stmt := top 34
abbrev s_is_tuple_of : Stmt := top 35
abbrev s_is_move : Stmt := top 36
abbrev s_is_fade : Stmt := top 37
abbrev s_row_along : Stmt := top 39
abbrev s_row_into : Stmt := top 40
abbrev s_seam_between : Stmt := top 41
abbrev s_states_alike : Stmt := top 42
abbrev s_need_few_codes : Stmt := top 45
abbrev s_need_repeats : Stmt := top 46
abbrev s_law_begun : Stmt := top 48
abbrev s_law_next : Stmt := top 49
abbrev s_law_coder : Stmt := top 50
abbrev s_law_parted : Stmt := top 51
abbrev s_law_limited : Stmt := top 52
abbrev s_law_led : Stmt := top 53
abbrev s_law_walked : Stmt := top 54
abbrev s_law_some_state : Stmt := top 55
abbrev s_law_row : Stmt := top 56
abbrev s_law_fault : Stmt := top 57
abbrev s_law_outcome : Stmt := top 58
abbrev s_law_shown : Stmt := top 59
abbrev s_law_appended : Stmt := top 60
abbrev s_law_times_right : Stmt := top 61
abbrev s_law_sample_right : Stmt := top 62
abbrev s_law_append_right : Stmt := top 63
abbrev s_law : Stmt := top 64
abbrev s_Clip_init : Stmt := inClass (top 44) 0
abbrev s_Clip_coder : Stmt := inClass (top 44) 1
abbrev s_Clip_codes : Stmt := inClass (top 44) 2
abbrev s_Clip_state : Stmt := inClass (top 44) 3
abbrev s_Clip_heard : Stmt := inClass (top 44) 4
abbrev s_Clip_last : Stmt := inClass (top 44) 5
abbrev s_Clip_stretch : Stmt := inClass (top 44) 6
abbrev s_Clip_copy : Stmt := inClass (top 44) 7
abbrev s_Clip_begins : Stmt := inClass (top 44) 8
abbrev s_Clip_len : Stmt := inClass (top 44) 9
abbrev s_Clip_eq : Stmt := inClass (top 44) 10
abbrev s_Clip_contains : Stmt := inClass (top 44) 11
abbrev s_Clip_add : Stmt := inClass (top 44) 12
abbrev s_Clip_mul : Stmt := inClass (top 44) 13
abbrev s_Clip_rmul : Stmt := inClass (top 44) 14
abbrev s_Clip_iadd : Stmt := inClass (top 44) 15
abbrev si_BadCoder : Stmt := inClass (top 2) 0
theorem sci_BadCoder : FnScope ["self", "part", "number"] ["self", "part", "number"] (defScope si_BadCoder) := ⟨rfl, rfl, rfl, by decide +kernel, rfl, by decide +kernel, by decide +kernel⟩
abbrev si_BadRow : Stmt := inClass (top 3) 0
theorem sci_BadRow : FnScope ["self", "row", "word"] ["self", "row", "word"] (defScope si_BadRow) := ⟨rfl, rfl, rfl, by decide +kernel, rfl, by decide +kernel, by decide +kernel⟩
abbrev si_TooGreat : Stmt := inClass (top 8) 0
theorem sci_TooGreat : FnScope ["self", "most"] ["self", "most"] (defScope si_TooGreat) := ⟨rfl, rfl, rfl, by decide +kernel, rfl, by decide +kernel, by decide +kernel⟩
abbrev si_OutOfPlace : Stmt := inClass (top 6) 0
theorem sci_OutOfPlace : FnScope ["self", "text"] ["self", "text"] (defScope si_OutOfPlace) := ⟨rfl, rfl, rfl, by decide +kernel, rfl, by decide +kernel, by decide +kernel⟩
abbrev si_NoSeam : Stmt := inClass (top 7) 0
theorem sci_NoSeam : FnScope ["self", "text"] ["self", "text"] (defScope si_NoSeam) := ⟨rfl, rfl, rfl, by decide +kernel, rfl, by decide +kernel, by decide +kernel⟩
theorem sc_wall : FnScope ["k"] ["k"] (defScope s_wall) := ⟨rfl, rfl, rfl, by decide +kernel, rfl, by decide +kernel, by decide +kernel⟩
theorem sc_is_integer : FnScope ["thing"] ["thing"] (defScope s_is_integer) := ⟨rfl, rfl, rfl, by decide +kernel, rfl, by decide +kernel, by decide +kernel⟩
theorem sc_is_between : FnScope ["thing", "least", "most"] ["thing", "least", "most"] (defScope s_is_between) := ⟨rfl, rfl, rfl, by decide +kernel, rfl, by decide +kernel, by decide +kernel⟩
theorem sc_is_pair : FnScope ["thing"] ["thing"] (defScope s_is_pair) := ⟨rfl, rfl, rfl, by decide +kernel, rfl, by decide +kernel, by decide +kernel⟩
theorem sc_is_code : FnScope ["coder", "thing"] ["coder", "thing"] (defScope s_is_code) := ⟨rfl, rfl, rfl, by decide +kernel, rfl, by decide +kernel, by decide +kernel⟩
theorem sc_is_place : FnScope ["coder", "thing"] ["coder", "thing"] (defScope s_is_place) := ⟨rfl, rfl, rfl, by decide +kernel, rfl, by decide +kernel, by decide +kernel⟩
theorem sc_is_state : FnScope ["coder", "thing"] ["coder", "thing"] (defScope s_is_state) := ⟨rfl, rfl, rfl, by decide +kernel, rfl, by decide +kernel, by decide +kernel⟩
theorem sc_need_state : FnScope ["coder", "thing"] ["coder", "thing"] (defScope s_need_state) := ⟨rfl, rfl, rfl, by decide +kernel, rfl, by decide +kernel, by decide +kernel⟩
theorem sc_need_row : FnScope ["coder", "thing", "index", "code"] ["coder", "thing"] (defScope s_need_row) := ⟨rfl, rfl, rfl, by decide +kernel, rfl, by decide +kernel, by decide +kernel⟩
theorem sc_need_few_states : FnScope ["coder", "most", "low", "high", "steps"] ["coder", "most"] (defScope s_need_few_states) := ⟨rfl, rfl, rfl, by decide +kernel, rfl, by decide +kernel, by decide +kernel⟩
theorem sc_all_states : FnScope ["coder", "low", "high", "steps", "level", "place"] ["coder"] (defScope s_all_states) := ⟨rfl, rfl, rfl, by decide +kernel, rfl, by decide +kernel, by decide +kernel⟩
theorem sc_rounded : FnScope ["number", "divisor"] ["number", "divisor"] (defScope s_rounded) := ⟨rfl, rfl, rfl, by decide +kernel, rfl, by decide +kernel, by decide +kernel⟩
theorem sc_limited : FnScope ["number", "least", "most"] ["number", "least", "most"] (defScope s_limited) := ⟨rfl, rfl, rfl, by decide +kernel, rfl, by decide +kernel, by decide +kernel⟩
theorem sc_change_at : FnScope ["coder", "code", "place", "share"] ["coder", "code", "place"] (defScope s_change_at) := ⟨rfl, rfl, rfl, by decide +kernel, rfl, by decide +kernel, by decide +kernel⟩
theorem sc_faded : FnScope ["level", "fade"] ["level", "fade"] (defScope s_faded) := ⟨rfl, rfl, rfl, by decide +kernel, rfl, by decide +kernel, by decide +kernel⟩
theorem sc_state_behind : FnScope ["coder", "state", "code", "low", "high", "steps", "moves", "fade", "level", "place", "turn", "moved"] ["coder", "state", "code"] (defScope s_state_behind) := ⟨rfl, rfl, rfl, by decide +kernel, rfl, by decide +kernel, by decide +kernel⟩
theorem sc_state_behind_row : FnScope ["coder", "row", "state", "now", "code"] ["coder", "row", "state"] (defScope s_state_behind_row) := ⟨rfl, rfl, rfl, by decide +kernel, rfl, by decide +kernel, by decide +kernel⟩
theorem sc_samples_along : FnScope ["coder", "row", "state", "samples", "now", "code"] ["coder", "row", "state"] (defScope s_samples_along) := ⟨rfl, rfl, rfl, by decide +kernel, rfl, by decide +kernel, by decide +kernel⟩
theorem sc_need_coder : FnScope ["thing", "fault"] ["thing"] (defScope s_need_coder) := ⟨rfl, rfl, rfl, by decide +kernel, rfl, by decide +kernel, by decide +kernel⟩
theorem sc_first_fault : FnScope ["thing", "low", "high", "steps", "moves", "fade", "fault"] ["thing"] (defScope s_first_fault) := ⟨rfl, rfl, rfl, by decide +kernel, rfl, by decide +kernel, by decide +kernel⟩
theorem sc_fault_of_steps : FnScope ["steps", "index", "step"] ["steps"] (defScope s_fault_of_steps) := ⟨rfl, rfl, rfl, by decide +kernel, rfl, by decide +kernel, by decide +kernel⟩
theorem sc_fault_of_moves : FnScope ["moves", "index", "move"] ["moves"] (defScope s_fault_of_moves) := ⟨rfl, rfl, rfl, by decide +kernel, rfl, by decide +kernel, by decide +kernel⟩
theorem sc_is_tuple_of : FnScope ["thing", "least", "most"] ["thing", "least", "most"] (defScope s_is_tuple_of) := ⟨rfl, rfl, rfl, by decide +kernel, rfl, by decide +kernel, by decide +kernel⟩
theorem sc_is_move : FnScope ["thing"] ["thing"] (defScope s_is_move) := ⟨rfl, rfl, rfl, by decide +kernel, rfl, by decide +kernel, by decide +kernel⟩
theorem sc_is_fade : FnScope ["thing"] ["thing"] (defScope s_is_fade) := ⟨rfl, rfl, rfl, by decide +kernel, rfl, by decide +kernel, by decide +kernel⟩
theorem sc_row_along : FnScope ["leaders", "thing", "row", "now", "code"] ["leaders", "thing"] (defScope s_row_along) := ⟨rfl, rfl, rfl, by decide +kernel, rfl, by decide +kernel, by decide +kernel⟩
theorem sc_row_into : FnScope ["coder", "one", "wanted", "codes", "leaders", "layer", "fresh", "state", "code", "after"] ["coder", "one", "wanted"] (defScope s_row_into) := ⟨rfl, rfl, rfl, by decide +kernel, rfl, by decide +kernel, by decide +kernel⟩
theorem sc_seam_between : FnScope ["coder", "one", "row", "state"] ["coder", "one", "row", "state"] (defScope s_seam_between) := ⟨rfl, rfl, rfl, by decide +kernel, rfl, by decide +kernel, by decide +kernel⟩
theorem sc_states_alike : FnScope ["coder", "row", "state", "first", "samples", "near", "behind", "place", "each"] ["coder", "row", "state"] (defScope s_states_alike) := ⟨rfl, rfl, rfl, by decide +kernel, rfl, by decide +kernel, by decide +kernel⟩
theorem sc_need_few_codes : FnScope ["many"] ["many"] (defScope s_need_few_codes) := ⟨rfl, rfl, rfl, by decide +kernel, rfl, by decide +kernel, by decide +kernel⟩
theorem sc_need_repeats : FnScope ["codes", "times"] ["codes", "times"] (defScope s_need_repeats) := ⟨rfl, rfl, rfl, by decide +kernel, rfl, by decide +kernel, by decide +kernel⟩
theorem sc_law_begun : FnScope ["script", "cell"] ["script"] (defScope s_law_begun) := ⟨rfl, rfl, rfl, by decide +kernel, rfl, by decide +kernel, by decide +kernel⟩
theorem sc_law_next : FnScope ["m", "many", "rest", "k", "cell", "mixed"] ["m", "many"] (defScope s_law_next) := ⟨rfl, rfl, rfl, by decide +kernel, rfl, by decide +kernel, by decide +kernel⟩
theorem sc_law_coder : FnScope ["m", "wide", "places", "codes", "low", "high", "k", "steps", "moves", "fade"] ["m", "wide", "places", "codes"] (defScope s_law_coder) := ⟨rfl, rfl, rfl, by decide +kernel, rfl, by decide +kernel, by decide +kernel⟩
theorem sc_law_parted : FnScope ["number", "by"] ["number", "by"] (defScope s_law_parted) := ⟨rfl, rfl, rfl, by decide +kernel, rfl, by decide +kernel, by decide +kernel⟩
theorem sc_law_limited : FnScope ["number", "least", "most"] ["number", "least", "most"] (defScope s_law_limited) := ⟨rfl, rfl, rfl, by decide +kernel, rfl, by decide +kernel, by decide +kernel⟩
theorem sc_law_led : FnScope ["coder", "here", "code", "share", "turn", "level"] ["coder", "here", "code"] (defScope s_law_led) := ⟨rfl, rfl, rfl, by decide +kernel, rfl, by decide +kernel, by decide +kernel⟩
theorem sc_law_walked : FnScope ["coder", "here", "row", "found", "code"] ["coder", "here", "row"] (defScope s_law_walked) := ⟨rfl, rfl, rfl, by decide +kernel, rfl, by decide +kernel, by decide +kernel⟩
theorem sc_law_some_state : FnScope ["m", "coder"] ["m", "coder"] (defScope s_law_some_state) := ⟨rfl, rfl, rfl, by decide +kernel, rfl, by decide +kernel, by decide +kernel⟩
theorem sc_law_row : FnScope ["m", "coder", "many", "k"] ["m", "coder", "many"] (defScope s_law_row) := ⟨rfl, rfl, rfl, by decide +kernel, rfl, by decide +kernel, by decide +kernel⟩
theorem sc_law_fault : FnScope ["e", "told"] ["e"] (defScope s_law_fault) := ⟨rfl, rfl, rfl, by decide +kernel, rfl, by decide +kernel, by decide +kernel⟩
theorem sc_law_outcome : FnScope ["deed", "caught", "found", "e"] ["deed"] (defScope s_law_outcome) := ⟨rfl, rfl, rfl, by decide +kernel, rfl, by decide +kernel, by decide +kernel⟩
theorem sc_law_shown : FnScope ["clip", "coder", "row", "here", "path", "told", "spot"] ["clip", "coder", "row", "here"] (defScope s_law_shown) := ⟨rfl, rfl, rfl, by decide +kernel, rfl, by decide +kernel, by decide +kernel⟩
theorem sc_law_appended : FnScope ["clip", "row", "caught", "e"] ["clip", "row"] (defScope s_law_appended) := ⟨rfl, rfl, rfl, by decide +kernel, rfl, by decide +kernel, by decide +kernel⟩
theorem sc_law_times_right : FnScope ["m", "clip", "coder", "row", "here", "due", "again", "odd", "times"] ["m", "clip", "coder", "row", "here"] (defScope s_law_times_right) := ⟨rfl, rfl, rfl, by decide +kernel, rfl, by decide +kernel, by decide +kernel⟩
theorem sc_law_sample_right : FnScope ["m", "clip", "coder", "sound", "some", "one"] ["m", "clip", "coder"] (defScope s_law_sample_right) := ⟨rfl, rfl, rfl, by decide +kernel, rfl, by decide +kernel, by decide +kernel⟩
theorem sc_law_append_right : FnScope ["m", "clip", "coder", "row", "here", "more", "same", "twin", "at", "bad", "one", "two", "sample"] ["m", "clip", "coder", "row", "here"] (defScope s_law_append_right) := ⟨rfl, rfl, rfl, by decide +kernel, rfl, by decide +kernel, by decide +kernel⟩
theorem sc_law : FnScope ["script", "m", "turn", "coder", "here", "row", "clip", "full"] ["script"] (defScope s_law) := ⟨rfl, rfl, rfl, by decide +kernel, rfl, by decide +kernel, by decide +kernel⟩
theorem sc_Clip_init : FnScope ["self", "coder", "codes", "state"] ["self", "coder", "codes", "state"] (defScope s_Clip_init) := ⟨rfl, rfl, rfl, by decide +kernel, rfl, by decide +kernel, by decide +kernel⟩
theorem sc_Clip_coder : FnScope ["self"] ["self"] (defScope s_Clip_coder) := ⟨rfl, rfl, rfl, by decide +kernel, rfl, by decide +kernel, by decide +kernel⟩
theorem sc_Clip_codes : FnScope ["self"] ["self"] (defScope s_Clip_codes) := ⟨rfl, rfl, rfl, by decide +kernel, rfl, by decide +kernel, by decide +kernel⟩
theorem sc_Clip_state : FnScope ["self"] ["self"] (defScope s_Clip_state) := ⟨rfl, rfl, rfl, by decide +kernel, rfl, by decide +kernel, by decide +kernel⟩
theorem sc_Clip_heard : FnScope ["self"] ["self"] (defScope s_Clip_heard) := ⟨rfl, rfl, rfl, by decide +kernel, rfl, by decide +kernel, by decide +kernel⟩
theorem sc_Clip_last : FnScope ["self"] ["self"] (defScope s_Clip_last) := ⟨rfl, rfl, rfl, by decide +kernel, rfl, by decide +kernel, by decide +kernel⟩
theorem sc_Clip_stretch : FnScope ["self", "begin", "end"] ["self", "begin", "end"] (defScope s_Clip_stretch) := ⟨rfl, rfl, rfl, by decide +kernel, rfl, by decide +kernel, by decide +kernel⟩
theorem sc_Clip_copy : FnScope ["self"] ["self"] (defScope s_Clip_copy) := ⟨rfl, rfl, rfl, by decide +kernel, rfl, by decide +kernel, by decide +kernel⟩
theorem sc_Clip_begins : FnScope ["self", "other"] ["self", "other"] (defScope s_Clip_begins) := ⟨rfl, rfl, rfl, by decide +kernel, rfl, by decide +kernel, by decide +kernel⟩
theorem sc_Clip_len : FnScope ["self"] ["self"] (defScope s_Clip_len) := ⟨rfl, rfl, rfl, by decide +kernel, rfl, by decide +kernel, by decide +kernel⟩
theorem sc_Clip_eq : FnScope ["self", "other"] ["self", "other"] (defScope s_Clip_eq) := ⟨rfl, rfl, rfl, by decide +kernel, rfl, by decide +kernel, by decide +kernel⟩
theorem sc_Clip_contains : FnScope ["self", "x"] ["self", "x"] (defScope s_Clip_contains) := ⟨rfl, rfl, rfl, by decide +kernel, rfl, by decide +kernel, by decide +kernel⟩
theorem sc_Clip_add : FnScope ["self", "other", "last", "between", "codes"] ["self", "other"] (defScope s_Clip_add) := ⟨rfl, rfl, rfl, by decide +kernel, rfl, by decide +kernel, by decide +kernel⟩
theorem sc_Clip_mul : FnScope ["self", "other"] ["self", "other"] (defScope s_Clip_mul) := ⟨rfl, rfl, rfl, by decide +kernel, rfl, by decide +kernel, by decide +kernel⟩
theorem sc_Clip_rmul : FnScope ["self", "other"] ["self", "other"] (defScope s_Clip_rmul) := ⟨rfl, rfl, rfl, by decide +kernel, rfl, by decide +kernel, by decide +kernel⟩
theorem sc_Clip_iadd : FnScope ["self", "other"] ["self", "other"] (defScope s_Clip_iadd) := ⟨rfl, rfl, rfl, by decide +kernel, rfl, by decide +kernel, by decide +kernel⟩
structure Txt0 (K : PySem.W.Frag) (mg : Str → Option Value) where
  f__wall : Addr
  d__wall : FuncData
  F__wall : Fun K "_wall" "_wall" s_wall f__wall d__wall
  b__wall : Binds K d__wall ["k"] []
  g__wall : mg "_wall" = some (.ref f__wall)
  f_is_integer : Addr
  d_is_integer : FuncData
  F_is_integer : Fun K "is_integer" "is_integer" s_is_integer f_is_integer d_is_integer
  b_is_integer : Binds K d_is_integer ["thing"] []
  g_is_integer : mg "is_integer" = some (.ref f_is_integer)
  f_is_between : Addr
  d_is_between : FuncData
  F_is_between : Fun K "is_between" "is_between" s_is_between f_is_between d_is_between
  b_is_between : Binds K d_is_between ["thing", "least", "most"] []
  g_is_between : mg "is_between" = some (.ref f_is_between)
  f_is_pair : Addr
  d_is_pair : FuncData
  F_is_pair : Fun K "is_pair" "is_pair" s_is_pair f_is_pair d_is_pair
  b_is_pair : Binds K d_is_pair ["thing"] []
  g_is_pair : mg "is_pair" = some (.ref f_is_pair)
  f_is_code : Addr
  d_is_code : FuncData
  F_is_code : Fun K "is_code" "is_code" s_is_code f_is_code d_is_code
  b_is_code : Binds K d_is_code ["coder", "thing"] []
  g_is_code : mg "is_code" = some (.ref f_is_code)
  f_is_place : Addr
  d_is_place : FuncData
  F_is_place : Fun K "is_place" "is_place" s_is_place f_is_place d_is_place
  b_is_place : Binds K d_is_place ["coder", "thing"] []
  g_is_place : mg "is_place" = some (.ref f_is_place)
  f_is_state : Addr
  d_is_state : FuncData
  F_is_state : Fun K "is_state" "is_state" s_is_state f_is_state d_is_state
  b_is_state : Binds K d_is_state ["coder", "thing"] []
  g_is_state : mg "is_state" = some (.ref f_is_state)
  f_need_state : Addr
  d_need_state : FuncData
  F_need_state : Fun K "need_state" "need_state" s_need_state f_need_state d_need_state
  b_need_state : Binds K d_need_state ["coder", "thing"] []
  g_need_state : mg "need_state" = some (.ref f_need_state)
  f_need_row : Addr
  d_need_row : FuncData
  F_need_row : Fun K "need_row" "need_row" s_need_row f_need_row d_need_row
  b_need_row : Binds K d_need_row ["coder", "thing"] []
  g_need_row : mg "need_row" = some (.ref f_need_row)
  f_need_few_states : Addr
  d_need_few_states : FuncData
  F_need_few_states : Fun K "need_few_states" "need_few_states" s_need_few_states f_need_few_states d_need_few_states
  b_need_few_states : Binds K d_need_few_states ["coder", "most"] []
  g_need_few_states : mg "need_few_states" = some (.ref f_need_few_states)
structure Txt1 (K : PySem.W.Frag) (mg : Str → Option Value) extends Txt0 K mg where
  f_all_states : Addr
  d_all_states : FuncData
  F_all_states : Fun K "all_states" "all_states" s_all_states f_all_states d_all_states
  b_all_states : Binds K d_all_states ["coder"] []
  g_all_states : mg "all_states" = some (.ref f_all_states)
  f_rounded : Addr
  d_rounded : FuncData
  F_rounded : Fun K "rounded" "rounded" s_rounded f_rounded d_rounded
  b_rounded : Binds K d_rounded ["number", "divisor"] []
  g_rounded : mg "rounded" = some (.ref f_rounded)
  f_limited : Addr
  d_limited : FuncData
  F_limited : Fun K "limited" "limited" s_limited f_limited d_limited
  b_limited : Binds K d_limited ["number", "least", "most"] []
  g_limited : mg "limited" = some (.ref f_limited)
  f_change_at : Addr
  d_change_at : FuncData
  F_change_at : Fun K "change_at" "change_at" s_change_at f_change_at d_change_at
  b_change_at : Binds K d_change_at ["coder", "code", "place"] []
  g_change_at : mg "change_at" = some (.ref f_change_at)
  f_faded : Addr
  d_faded : FuncData
  F_faded : Fun K "faded" "faded" s_faded f_faded d_faded
  b_faded : Binds K d_faded ["level", "fade"] []
  g_faded : mg "faded" = some (.ref f_faded)
  f_state_behind : Addr
  d_state_behind : FuncData
  F_state_behind : Fun K "state_behind" "state_behind" s_state_behind f_state_behind d_state_behind
  b_state_behind : Binds K d_state_behind ["coder", "state", "code"] []
  g_state_behind : mg "state_behind" = some (.ref f_state_behind)
  f_state_behind_row : Addr
  d_state_behind_row : FuncData
  F_state_behind_row : Fun K "state_behind_row" "state_behind_row" s_state_behind_row f_state_behind_row d_state_behind_row
  b_state_behind_row : Binds K d_state_behind_row ["coder", "row", "state"] []
  g_state_behind_row : mg "state_behind_row" = some (.ref f_state_behind_row)
  f_samples_along : Addr
  d_samples_along : FuncData
  F_samples_along : Fun K "samples_along" "samples_along" s_samples_along f_samples_along d_samples_along
  b_samples_along : Binds K d_samples_along ["coder", "row", "state"] []
  g_samples_along : mg "samples_along" = some (.ref f_samples_along)
  f_need_coder : Addr
  d_need_coder : FuncData
  F_need_coder : Fun K "need_coder" "need_coder" s_need_coder f_need_coder d_need_coder
  b_need_coder : Binds K d_need_coder ["thing"] []
  g_need_coder : mg "need_coder" = some (.ref f_need_coder)
  f__first_fault : Addr
  d__first_fault : FuncData
  F__first_fault : Fun K "_first_fault" "_first_fault" s_first_fault f__first_fault d__first_fault
  b__first_fault : Binds K d__first_fault ["thing"] []
  g__first_fault : mg "_first_fault" = some (.ref f__first_fault)
structure Txt2 (K : PySem.W.Frag) (mg : Str → Option Value) extends Txt1 K mg where
  f__fault_of_steps : Addr
  d__fault_of_steps : FuncData
  F__fault_of_steps : Fun K "_fault_of_steps" "_fault_of_steps" s_fault_of_steps f__fault_of_steps d__fault_of_steps
  b__fault_of_steps : Binds K d__fault_of_steps ["steps"] []
  g__fault_of_steps : mg "_fault_of_steps" = some (.ref f__fault_of_steps)
  f__fault_of_moves : Addr
  d__fault_of_moves : FuncData
  F__fault_of_moves : Fun K "_fault_of_moves" "_fault_of_moves" s_fault_of_moves f__fault_of_moves d__fault_of_moves
  b__fault_of_moves : Binds K d__fault_of_moves ["moves"] []
  g__fault_of_moves : mg "_fault_of_moves" = some (.ref f__fault_of_moves)
  f__is_tuple_of : Addr
  d__is_tuple_of : FuncData
  F__is_tuple_of : Fun K "_is_tuple_of" "_is_tuple_of" s_is_tuple_of f__is_tuple_of d__is_tuple_of
  b__is_tuple_of : Binds K d__is_tuple_of ["thing", "least", "most"] []
  g__is_tuple_of : mg "_is_tuple_of" = some (.ref f__is_tuple_of)
  f__is_move : Addr
  d__is_move : FuncData
  F__is_move : Fun K "_is_move" "_is_move" s_is_move f__is_move d__is_move
  b__is_move : Binds K d__is_move ["thing"] []
  g__is_move : mg "_is_move" = some (.ref f__is_move)
  f__is_fade : Addr
  d__is_fade : FuncData
  F__is_fade : Fun K "_is_fade" "_is_fade" s_is_fade f__is_fade d__is_fade
  b__is_fade : Binds K d__is_fade ["thing"] []
  g__is_fade : mg "_is_fade" = some (.ref f__is_fade)
  f_row_along : Addr
  d_row_along : FuncData
  F_row_along : Fun K "row_along" "row_along" s_row_along f_row_along d_row_along
  b_row_along : Binds K d_row_along ["leaders", "thing"] []
  g_row_along : mg "row_along" = some (.ref f_row_along)
  f_row_into : Addr
  d_row_into : FuncData
  F_row_into : Fun K "row_into" "row_into" s_row_into f_row_into d_row_into
  b_row_into : Binds K d_row_into ["coder", "one", "wanted"] []
  g_row_into : mg "row_into" = some (.ref f_row_into)
  f_seam_between : Addr
  d_seam_between : FuncData
  F_seam_between : Fun K "seam_between" "seam_between" s_seam_between f_seam_between d_seam_between
  b_seam_between : Binds K d_seam_between ["coder", "one", "row", "state"] []
  g_seam_between : mg "seam_between" = some (.ref f_seam_between)
  f__states_alike : Addr
  d__states_alike : FuncData
  F__states_alike : Fun K "_states_alike" "_states_alike" s_states_alike f__states_alike d__states_alike
  b__states_alike : Binds K d__states_alike ["coder", "row", "state"] []
  g__states_alike : mg "_states_alike" = some (.ref f__states_alike)
  f__need_few_codes : Addr
  d__need_few_codes : FuncData
  F__need_few_codes : Fun K "_need_few_codes" "_need_few_codes" s_need_few_codes f__need_few_codes d__need_few_codes
  b__need_few_codes : Binds K d__need_few_codes ["many"] []
  g__need_few_codes : mg "_need_few_codes" = some (.ref f__need_few_codes)
structure Txt3 (K : PySem.W.Frag) (mg : Str → Option Value) extends Txt2 K mg where
  f__need_repeats : Addr
  d__need_repeats : FuncData
  F__need_repeats : Fun K "_need_repeats" "_need_repeats" s_need_repeats f__need_repeats d__need_repeats
  b__need_repeats : Binds K d__need_repeats ["codes", "times"] []
  g__need_repeats : mg "_need_repeats" = some (.ref f__need_repeats)
  f__law_begun : Addr
  d__law_begun : FuncData
  F__law_begun : Fun K "_law_begun" "_law_begun" s_law_begun f__law_begun d__law_begun
  b__law_begun : Binds K d__law_begun ["script"] []
  g__law_begun : mg "_law_begun" = some (.ref f__law_begun)
  f__law_next : Addr
  d__law_next : FuncData
  F__law_next : Fun K "_law_next" "_law_next" s_law_next f__law_next d__law_next
  b__law_next : Binds K d__law_next ["m", "many"] []
  g__law_next : mg "_law_next" = some (.ref f__law_next)
  f__law_coder : Addr
  d__law_coder : FuncData
  F__law_coder : Fun K "_law_coder" "_law_coder" s_law_coder f__law_coder d__law_coder
  b__law_coder : Binds K d__law_coder ["m", "wide", "places", "codes"] []
  g__law_coder : mg "_law_coder" = some (.ref f__law_coder)
  f__law_parted : Addr
  d__law_parted : FuncData
  F__law_parted : Fun K "_law_parted" "_law_parted" s_law_parted f__law_parted d__law_parted
  b__law_parted : Binds K d__law_parted ["number", "by"] []
  g__law_parted : mg "_law_parted" = some (.ref f__law_parted)
  f__law_limited : Addr
  d__law_limited : FuncData
  F__law_limited : Fun K "_law_limited" "_law_limited" s_law_limited f__law_limited d__law_limited
  b__law_limited : Binds K d__law_limited ["number", "least", "most"] []
  g__law_limited : mg "_law_limited" = some (.ref f__law_limited)
  f__law_led : Addr
  d__law_led : FuncData
  F__law_led : Fun K "_law_led" "_law_led" s_law_led f__law_led d__law_led
  b__law_led : Binds K d__law_led ["coder", "here", "code"] []
  g__law_led : mg "_law_led" = some (.ref f__law_led)
  f__law_walked : Addr
  d__law_walked : FuncData
  F__law_walked : Fun K "_law_walked" "_law_walked" s_law_walked f__law_walked d__law_walked
  b__law_walked : Binds K d__law_walked ["coder", "here", "row"] []
  g__law_walked : mg "_law_walked" = some (.ref f__law_walked)
  f__law_some_state : Addr
  d__law_some_state : FuncData
  F__law_some_state : Fun K "_law_some_state" "_law_some_state" s_law_some_state f__law_some_state d__law_some_state
  b__law_some_state : Binds K d__law_some_state ["m", "coder"] []
  g__law_some_state : mg "_law_some_state" = some (.ref f__law_some_state)
  f__law_row : Addr
  d__law_row : FuncData
  F__law_row : Fun K "_law_row" "_law_row" s_law_row f__law_row d__law_row
  b__law_row : Binds K d__law_row ["m", "coder", "many"] []
  g__law_row : mg "_law_row" = some (.ref f__law_row)
structure Txt4 (K : PySem.W.Frag) (mg : Str → Option Value) extends Txt3 K mg where
  f__law_fault : Addr
  d__law_fault : FuncData
  F__law_fault : Fun K "_law_fault" "_law_fault" s_law_fault f__law_fault d__law_fault
  b__law_fault : Binds K d__law_fault ["e"] []
  g__law_fault : mg "_law_fault" = some (.ref f__law_fault)
  f__law_outcome : Addr
  d__law_outcome : FuncData
  F__law_outcome : Fun K "_law_outcome" "_law_outcome" s_law_outcome f__law_outcome d__law_outcome
  b__law_outcome : Binds K d__law_outcome ["deed"] []
  g__law_outcome : mg "_law_outcome" = some (.ref f__law_outcome)
  f__law_shown : Addr
  d__law_shown : FuncData
  F__law_shown : Fun K "_law_shown" "_law_shown" s_law_shown f__law_shown d__law_shown
  b__law_shown : Binds K d__law_shown ["clip", "coder", "row", "here"] []
  g__law_shown : mg "_law_shown" = some (.ref f__law_shown)
  f__law_appended : Addr
  d__law_appended : FuncData
  F__law_appended : Fun K "_law_appended" "_law_appended" s_law_appended f__law_appended d__law_appended
  b__law_appended : Binds K d__law_appended ["clip", "row"] []
  g__law_appended : mg "_law_appended" = some (.ref f__law_appended)
  f__law_times_right : Addr
  d__law_times_right : FuncData
  F__law_times_right : Fun K "_law_times_right" "_law_times_right" s_law_times_right f__law_times_right d__law_times_right
  b__law_times_right : Binds K d__law_times_right ["m", "clip", "coder", "row", "here"] []
  g__law_times_right : mg "_law_times_right" = some (.ref f__law_times_right)
  f__law_sample_right : Addr
  d__law_sample_right : FuncData
  F__law_sample_right : Fun K "_law_sample_right" "_law_sample_right" s_law_sample_right f__law_sample_right d__law_sample_right
  b__law_sample_right : Binds K d__law_sample_right ["m", "clip", "coder"] []
  g__law_sample_right : mg "_law_sample_right" = some (.ref f__law_sample_right)
  f__law_append_right : Addr
  d__law_append_right : FuncData
  F__law_append_right : Fun K "_law_append_right" "_law_append_right" s_law_append_right f__law_append_right d__law_append_right
  b__law_append_right : Binds K d__law_append_right ["m", "clip", "coder", "row", "here"] []
  g__law_append_right : mg "_law_append_right" = some (.ref f__law_append_right)
  f_law : Addr
  d_law : FuncData
  F_law : Fun K "law" "law" s_law f_law d_law
  b_law : Binds K d_law ["script"] []
  g_law : mg "law" = some (.ref f_law)
  f_Clip_init : Addr
  d_Clip_init : FuncData
  F_Clip_init : ∃ dv q, FunD K "__init__" "Clip.__init__" (defArgs s_Clip_init) (defBody s_Clip_init) (defScope s_Clip_init) dv [("state", V.ref q)] f_Clip_init d_Clip_init
  k_Clip_init : KBn K d_Clip_init ["self", "coder", "codes", "state"] 3 ["state"] (fun us ws => us ++ ws) (fun vs zs => vs ++ zs)
  q_Clip_init : Addr
  qd_Clip_init : Addr
  qs_Clip_init : ∀ H, SqT K H q_Clip_init [.int 0, .int 0]
  qds_Clip_init : ∀ H, SqT K H qd_Clip_init []
  e_Clip_init : List Value
  ev_Clip_init : Vals [V.ref q_Clip_init] e_Clip_init
  b_Clip_init : Binds K d_Clip_init ["self", "coder", "codes", "state"] e_Clip_init
  eb_Clip_init : List Value
  evb_Clip_init : Vals [V.ref qd_Clip_init, V.ref q_Clip_init] eb_Clip_init
  bb_Clip_init : Binds K d_Clip_init ["self", "coder", "codes", "state"] eb_Clip_init
  f_Clip_coder : Addr
  d_Clip_coder : FuncData
  F_Clip_coder : Fun K "coder" "Clip.coder" s_Clip_coder f_Clip_coder d_Clip_coder
  b_Clip_coder : Binds K d_Clip_coder ["self"] []
structure Txt5 (K : PySem.W.Frag) (mg : Str → Option Value) extends Txt4 K mg where
  f_Clip_codes : Addr
  d_Clip_codes : FuncData
  F_Clip_codes : Fun K "codes" "Clip.codes" s_Clip_codes f_Clip_codes d_Clip_codes
  b_Clip_codes : Binds K d_Clip_codes ["self"] []
  f_Clip_state : Addr
  d_Clip_state : FuncData
  F_Clip_state : Fun K "state" "Clip.state" s_Clip_state f_Clip_state d_Clip_state
  b_Clip_state : Binds K d_Clip_state ["self"] []
  f_Clip_heard : Addr
  d_Clip_heard : FuncData
  F_Clip_heard : Fun K "heard" "Clip.heard" s_Clip_heard f_Clip_heard d_Clip_heard
  b_Clip_heard : Binds K d_Clip_heard ["self"] []
  f_Clip_last : Addr
  d_Clip_last : FuncData
  F_Clip_last : Fun K "last" "Clip.last" s_Clip_last f_Clip_last d_Clip_last
  b_Clip_last : Binds K d_Clip_last ["self"] []
  f_Clip_stretch : Addr
  d_Clip_stretch : FuncData
  F_Clip_stretch : Fun K "stretch" "Clip.stretch" s_Clip_stretch f_Clip_stretch d_Clip_stretch
  b_Clip_stretch : Binds K d_Clip_stretch ["self", "begin", "end"] []
  f_Clip_copy : Addr
  d_Clip_copy : FuncData
  F_Clip_copy : Fun K "copy" "Clip.copy" s_Clip_copy f_Clip_copy d_Clip_copy
  b_Clip_copy : Binds K d_Clip_copy ["self"] []
  f_Clip_begins : Addr
  d_Clip_begins : FuncData
  F_Clip_begins : Fun K "begins" "Clip.begins" s_Clip_begins f_Clip_begins d_Clip_begins
  b_Clip_begins : Binds K d_Clip_begins ["self", "other"] []
  f_Clip_len : Addr
  d_Clip_len : FuncData
  F_Clip_len : Fun K "__len__" "Clip.__len__" s_Clip_len f_Clip_len d_Clip_len
  b_Clip_len : Binds K d_Clip_len ["self"] []
  f_Clip_eq : Addr
  d_Clip_eq : FuncData
  F_Clip_eq : Fun K "__eq__" "Clip.__eq__" s_Clip_eq f_Clip_eq d_Clip_eq
  b_Clip_eq : Binds K d_Clip_eq ["self", "other"] []
  f_Clip_contains : Addr
  d_Clip_contains : FuncData
  F_Clip_contains : Fun K "__contains__" "Clip.__contains__" s_Clip_contains f_Clip_contains d_Clip_contains
  b_Clip_contains : Binds K d_Clip_contains ["self", "x"] []
structure Txt6 (K : PySem.W.Frag) (mg : Str → Option Value) extends Txt5 K mg where
  f_Clip_add : Addr
  d_Clip_add : FuncData
  F_Clip_add : Fun K "__add__" "Clip.__add__" s_Clip_add f_Clip_add d_Clip_add
  b_Clip_add : Binds K d_Clip_add ["self", "other"] []
  f_Clip_mul : Addr
  d_Clip_mul : FuncData
  F_Clip_mul : Fun K "__mul__" "Clip.__mul__" s_Clip_mul f_Clip_mul d_Clip_mul
  b_Clip_mul : Binds K d_Clip_mul ["self", "other"] []
  f_Clip_rmul : Addr
  d_Clip_rmul : FuncData
  F_Clip_rmul : Fun K "__rmul__" "Clip.__rmul__" s_Clip_rmul f_Clip_rmul d_Clip_rmul
  b_Clip_rmul : Binds K d_Clip_rmul ["self", "other"] []
  f_Clip_iadd : Addr
  d_Clip_iadd : FuncData
  F_Clip_iadd : Fun K "__iadd__" "Clip.__iadd__" s_Clip_iadd f_Clip_iadd d_Clip_iadd
  b_Clip_iadd : Binds K d_Clip_iadd ["self", "other"] []
structure Txt (K : PySem.W.Frag) (mg : Str → Option Value) extends Txt6 K mg where
  z_bool : mg "bool" = none
  z_enumerate : mg "enumerate" = none
  z_int : mg "int" = none
  z_isinstance : mg "isinstance" = none
  z_len : mg "len" = none
  z_list : mg "list" = none
  z_max : mg "max" = none
  z_min : mg "min" = none
  z_range : mg "range" = none
  z_repr : mg "repr" = none
  z_tuple : mg "tuple" = none
  C_Clip : Addr
  g_Clip : mg "Clip" = some (.ref C_Clip)
  cl_Clip : Cls K C_Clip
  mk_Clip : Mk K C_Clip f_Clip_init
  na_Clip__coder : NoAttr K C_Clip "_coder"
  na_Clip__codes : NoAttr K C_Clip "_codes"
  na_Clip__state : NoAttr K C_Clip "_state"
  sf_Clip : PySem.W.selfFirst K C_Clip = true
  is_Clip : IsC K C_Clip
  si_Clip : PySem.W.subIn K (.ref C_Clip) (.type "int") = some false
  sj_Clip : PySem.W.subIn K (.ref C_Clip) (.type "bool") = some false
  sk_Clip : PySem.W.subIn K (.ref C_Clip) (.type "tuple") = some false
  ra_Clip : PySem.W.findIn K (.ref C_Clip) "__radd__" = some none
  sb_Clip : ∀ T ∈ sevenT, PySem.W.subIn K (.type T) (.ref C_Clip) = some false
  ne_Clip : PySem.W.findIn K (.ref C_Clip) "__ne__" = some (some (.builtin "object.__ne__"))
  p_Clip_coder : Addr
  po_Clip_coder : PropOf K C_Clip "coder" p_Clip_coder f_Clip_coder
  p_Clip_codes : Addr
  po_Clip_codes : PropOf K C_Clip "codes" p_Clip_codes f_Clip_codes
  p_Clip_state : Addr
  po_Clip_state : PropOf K C_Clip "state" p_Clip_state f_Clip_state
  me_Clip_heard : Meth K C_Clip "heard" f_Clip_heard
  me_Clip_last : Meth K C_Clip "last" f_Clip_last
  me_Clip_stretch : Meth K C_Clip "stretch" f_Clip_stretch
  me_Clip_copy : Meth K C_Clip "copy" f_Clip_copy
  me_Clip_begins : Meth K C_Clip "begins" f_Clip_begins
  at_Clip_len : PySem.W.findIn K (.ref C_Clip) "__len__" = some (some (.ref f_Clip_len))
  fn_Clip_len : PySem.W.isFn K (.ref f_Clip_len) = true
  at_Clip_eq : PySem.W.findIn K (.ref C_Clip) "__eq__" = some (some (.ref f_Clip_eq))
  fn_Clip_eq : PySem.W.isFn K (.ref f_Clip_eq) = true
  at_Clip_contains : PySem.W.findIn K (.ref C_Clip) "__contains__" = some (some (.ref f_Clip_contains))
  fn_Clip_contains : PySem.W.isFn K (.ref f_Clip_contains) = true
  at_Clip_add : PySem.W.findIn K (.ref C_Clip) "__add__" = some (some (.ref f_Clip_add))
  fn_Clip_add : PySem.W.isFn K (.ref f_Clip_add) = true
  at_Clip_mul : PySem.W.findIn K (.ref C_Clip) "__mul__" = some (some (.ref f_Clip_mul))
  fn_Clip_mul : PySem.W.isFn K (.ref f_Clip_mul) = true
  at_Clip_rmul : PySem.W.findIn K (.ref C_Clip) "__rmul__" = some (some (.ref f_Clip_rmul))
  fn_Clip_rmul : PySem.W.isFn K (.ref f_Clip_rmul) = true
  at_Clip_iadd : PySem.W.findIn K (.ref C_Clip) "__iadd__" = some (some (.ref f_Clip_iadd))
  fn_Clip_iadd : PySem.W.isFn K (.ref f_Clip_iadd) = true
  C_BadCoder : Addr
  fi_BadCoder : Addr
  di_BadCoder : FuncData
  g_BadCoder : mg "BadCoder" = some (.ref C_BadCoder)
  o_BadCoder : OexC K C_BadCoder
  i_BadCoder : PySem.W.findIn K (.ref C_BadCoder) "__init__" = some (some (.ref fi_BadCoder))
  t_BadCoder : PySem.W.typeIn K (.ref fi_BadCoder) = some (.type "function")
  x_BadCoder : XfC K C_BadCoder
  X_BadCoder : ExcC K C_BadCoder
  n_BadCoder_part : PySem.W.findIn K (.ref C_BadCoder) "part" = some none
  n_BadCoder_number : PySem.W.findIn K (.ref C_BadCoder) "number" = some none
  Fi_BadCoder : Fun K "__init__" "BadCoder.__init__" si_BadCoder fi_BadCoder di_BadCoder
  bi_BadCoder : Binds K di_BadCoder ["self", "part", "number"] []
  e_BadCoder : PySem.W.exmOne K (.ref C_BadCoder) (.ref C_BadCoder) = some true
  C_BadRow : Addr
  fi_BadRow : Addr
  di_BadRow : FuncData
  g_BadRow : mg "BadRow" = some (.ref C_BadRow)
  o_BadRow : OexC K C_BadRow
  i_BadRow : PySem.W.findIn K (.ref C_BadRow) "__init__" = some (some (.ref fi_BadRow))
  t_BadRow : PySem.W.typeIn K (.ref fi_BadRow) = some (.type "function")
  x_BadRow : XfC K C_BadRow
  X_BadRow : ExcC K C_BadRow
  n_BadRow_row : PySem.W.findIn K (.ref C_BadRow) "row" = some none
  n_BadRow_word : PySem.W.findIn K (.ref C_BadRow) "word" = some none
  Fi_BadRow : Fun K "__init__" "BadRow.__init__" si_BadRow fi_BadRow di_BadRow
  bi_BadRow : Binds K di_BadRow ["self", "row", "word"] []
  e_BadRow : PySem.W.exmOne K (.ref C_BadRow) (.ref C_BadRow) = some true
  C_TooGreat : Addr
  fi_TooGreat : Addr
  di_TooGreat : FuncData
  g_TooGreat : mg "TooGreat" = some (.ref C_TooGreat)
  o_TooGreat : TgC K C_TooGreat
  i_TooGreat : PySem.W.findIn K (.ref C_TooGreat) "__init__" = some (some (.ref fi_TooGreat))
  t_TooGreat : PySem.W.typeIn K (.ref fi_TooGreat) = some (.type "function")
  x_TooGreat : XfC K C_TooGreat
  X_TooGreat : ExcC K C_TooGreat
  n_TooGreat_most : PySem.W.findIn K (.ref C_TooGreat) "most" = some none
  Fi_TooGreat : Fun K "__init__" "TooGreat.__init__" si_TooGreat fi_TooGreat di_TooGreat
  bi_TooGreat : Binds K di_TooGreat ["self", "most"] []
  e_TooGreat : PySem.W.exmOne K (.ref C_TooGreat) (.ref C_TooGreat) = some true
  C_OutOfPlace : Addr
  fi_OutOfPlace : Addr
  di_OutOfPlace : FuncData
  g_OutOfPlace : mg "OutOfPlace" = some (.ref C_OutOfPlace)
  o_OutOfPlace : OexC K C_OutOfPlace
  i_OutOfPlace : PySem.W.findIn K (.ref C_OutOfPlace) "__init__" = some (some (.ref fi_OutOfPlace))
  t_OutOfPlace : PySem.W.typeIn K (.ref fi_OutOfPlace) = some (.type "function")
  x_OutOfPlace : XfC K C_OutOfPlace
  X_OutOfPlace : ExcC K C_OutOfPlace
  Fi_OutOfPlace : Fun K "__init__" "OutOfPlace.__init__" si_OutOfPlace fi_OutOfPlace di_OutOfPlace
  bi_OutOfPlace : Binds K di_OutOfPlace ["self", "text"] []
  e_OutOfPlace : PySem.W.exmOne K (.ref C_OutOfPlace) (.ref C_OutOfPlace) = some true
  C_NoSeam : Addr
  fi_NoSeam : Addr
  di_NoSeam : FuncData
  g_NoSeam : mg "NoSeam" = some (.ref C_NoSeam)
  o_NoSeam : OexC K C_NoSeam
  i_NoSeam : PySem.W.findIn K (.ref C_NoSeam) "__init__" = some (some (.ref fi_NoSeam))
  t_NoSeam : PySem.W.typeIn K (.ref fi_NoSeam) = some (.type "function")
  x_NoSeam : XfC K C_NoSeam
  X_NoSeam : ExcC K C_NoSeam
  Fi_NoSeam : Fun K "__init__" "NoSeam.__init__" si_NoSeam fi_NoSeam di_NoSeam
  bi_NoSeam : Binds K di_NoSeam ["self", "text"] []
  e_NoSeam : PySem.W.exmOne K (.ref C_NoSeam) (.ref C_NoSeam) = some true
  C_BadPaper : Addr
  g_BadPaper : mg "BadPaper" = some (.ref C_BadPaper)
  C_BadByte : Addr
  g_BadByte : mg "BadByte" = some (.ref C_BadByte)
  C_Nothing : Addr
  g_Nothing : mg "Nothing" = some (.ref C_Nothing)
  e_BadCoder_BadRow : PySem.W.exmOne K (.ref C_BadCoder) (.ref C_BadRow) = some false
  e_BadCoder_TooGreat : PySem.W.exmOne K (.ref C_BadCoder) (.ref C_TooGreat) = some false
  e_BadCoder_OutOfPlace : PySem.W.exmOne K (.ref C_BadCoder) (.ref C_OutOfPlace) = some false
  e_BadCoder_NoSeam : PySem.W.exmOne K (.ref C_BadCoder) (.ref C_NoSeam) = some false
  em_BadCoder : exmEach K (.ref C_BadCoder) [.ref C_BadCoder, .ref C_BadRow, .ref C_BadPaper, .ref C_BadByte, .ref C_TooGreat, .ref C_OutOfPlace, .ref C_NoSeam, .ref C_Nothing] [true, false, false, false, false, false, false, false]
  ks_BadCoder : kitEach K (.ref C_BadCoder) [.ref C_BadCoder, .ref C_BadRow, .ref C_BadPaper, .ref C_BadByte, .ref C_TooGreat, .ref C_OutOfPlace, .ref C_NoSeam, .ref C_Nothing] [true, false, false, false, false, false, false, false]
  e_BadRow_BadCoder : PySem.W.exmOne K (.ref C_BadRow) (.ref C_BadCoder) = some false
  e_BadRow_TooGreat : PySem.W.exmOne K (.ref C_BadRow) (.ref C_TooGreat) = some false
  e_BadRow_OutOfPlace : PySem.W.exmOne K (.ref C_BadRow) (.ref C_OutOfPlace) = some false
  e_BadRow_NoSeam : PySem.W.exmOne K (.ref C_BadRow) (.ref C_NoSeam) = some false
  em_BadRow : exmEach K (.ref C_BadRow) [.ref C_BadCoder, .ref C_BadRow, .ref C_BadPaper, .ref C_BadByte, .ref C_TooGreat, .ref C_OutOfPlace, .ref C_NoSeam, .ref C_Nothing] [false, true, false, false, false, false, false, false]
  ks_BadRow : kitEach K (.ref C_BadRow) [.ref C_BadCoder, .ref C_BadRow, .ref C_BadPaper, .ref C_BadByte, .ref C_TooGreat, .ref C_OutOfPlace, .ref C_NoSeam, .ref C_Nothing] [false, true, false, false, false, false, false, false]
  e_TooGreat_BadCoder : PySem.W.exmOne K (.ref C_TooGreat) (.ref C_BadCoder) = some false
  e_TooGreat_BadRow : PySem.W.exmOne K (.ref C_TooGreat) (.ref C_BadRow) = some false
  e_TooGreat_OutOfPlace : PySem.W.exmOne K (.ref C_TooGreat) (.ref C_OutOfPlace) = some false
  e_TooGreat_NoSeam : PySem.W.exmOne K (.ref C_TooGreat) (.ref C_NoSeam) = some false
  em_TooGreat : exmEach K (.ref C_TooGreat) [.ref C_BadCoder, .ref C_BadRow, .ref C_BadPaper, .ref C_BadByte, .ref C_TooGreat, .ref C_OutOfPlace, .ref C_NoSeam, .ref C_Nothing] [false, false, false, false, true, false, false, false]
  ks_TooGreat : kitEach K (.ref C_TooGreat) [.ref C_BadCoder, .ref C_BadRow, .ref C_BadPaper, .ref C_BadByte, .ref C_TooGreat, .ref C_OutOfPlace, .ref C_NoSeam, .ref C_Nothing] [false, false, false, false, true, false, false, false]
  e_OutOfPlace_BadCoder : PySem.W.exmOne K (.ref C_OutOfPlace) (.ref C_BadCoder) = some false
  e_OutOfPlace_BadRow : PySem.W.exmOne K (.ref C_OutOfPlace) (.ref C_BadRow) = some false
  e_OutOfPlace_TooGreat : PySem.W.exmOne K (.ref C_OutOfPlace) (.ref C_TooGreat) = some false
  e_OutOfPlace_NoSeam : PySem.W.exmOne K (.ref C_OutOfPlace) (.ref C_NoSeam) = some false
  em_OutOfPlace : exmEach K (.ref C_OutOfPlace) [.ref C_BadCoder, .ref C_BadRow, .ref C_BadPaper, .ref C_BadByte, .ref C_TooGreat, .ref C_OutOfPlace, .ref C_NoSeam, .ref C_Nothing] [false, false, false, false, false, true, false, false]
  ks_OutOfPlace : kitEach K (.ref C_OutOfPlace) [.ref C_BadCoder, .ref C_BadRow, .ref C_BadPaper, .ref C_BadByte, .ref C_TooGreat, .ref C_OutOfPlace, .ref C_NoSeam, .ref C_Nothing] [false, false, false, false, false, true, false, false]
  e_NoSeam_BadCoder : PySem.W.exmOne K (.ref C_NoSeam) (.ref C_BadCoder) = some false
  e_NoSeam_BadRow : PySem.W.exmOne K (.ref C_NoSeam) (.ref C_BadRow) = some false
  e_NoSeam_TooGreat : PySem.W.exmOne K (.ref C_NoSeam) (.ref C_TooGreat) = some false
  e_NoSeam_OutOfPlace : PySem.W.exmOne K (.ref C_NoSeam) (.ref C_OutOfPlace) = some false
  em_NoSeam : exmEach K (.ref C_NoSeam) [.ref C_BadCoder, .ref C_BadRow, .ref C_BadPaper, .ref C_BadByte, .ref C_TooGreat, .ref C_OutOfPlace, .ref C_NoSeam, .ref C_Nothing] [false, false, false, false, false, false, true, false]
  ks_NoSeam : kitEach K (.ref C_NoSeam) [.ref C_BadCoder, .ref C_BadRow, .ref C_BadPaper, .ref C_BadByte, .ref C_TooGreat, .ref C_OutOfPlace, .ref C_NoSeam, .ref C_Nothing] [false, false, false, false, false, false, true, false]
  c__law_times_right : Addr
  P__law_times_right : Addr
  cd__law_times_right : d__law_times_right.code = .ref c__law_times_right
  c_law : Addr
  P_law : Addr
  cd_law : d_law.code = .ref c_law
  nP__law_times_right_law : P__law_times_right ≠ P_law
  kp_oc : PySem.W.keepIn K (.ref f__law_outcome) = true
  lk_oc : ∃ oc od dV kV doc pm an cdv ct osl, K.lookup f__law_outcome = some ⟨oc, od, .func (PySem.W.fnOf "_law_outcome" "_law_outcome" (defArgs s_law_outcome) (defBody s_law_outcome) (defScope s_law_outcome) dV kV doc pm an cdv ct), osl⟩ ∧ PySem.W.codeIn K cdv "_law_outcome" = true ∧ L2.Binds K (PySem.W.fnOf "_law_outcome" "_law_outcome" (defArgs s_law_outcome) (defBody s_law_outcome) (defScope s_law_outcome) dV kV doc pm an cdv ct) ["deed"] []
  vV : PySem.W.findCls K (.type "ValueError") (.type "type") "__init__" = some (.val (.builtin "ValueError.__init__"))
  zV : mg "ValueError" = none
  t_MOST_CODES : Tok
  g_MOST_CODES : mg "MOST_CODES" = some (.int 2000 t_MOST_CODES)
def TL {K : PySem.W.Frag} {mg : Str → Option Value} (T : Txt K mg) : List (Addr × Str) := [(T.P__law_times_right, "_law_times_right.<locals>.<lambda>"), (T.P_law, "law.<locals>.<lambda>")]
theorem tl_ok {K : PySem.W.Frag} {mg : Str → Option Value} (T : Txt K mg) : ∀ p ∈ TL T, ∀ q ∈ TL T, p.1 = q.1 → p.2 = q.2 := by
  intro p hp q hq e
  unfold TL at hp hq
  simp only [List.mem_cons, List.not_mem_nil, or_false] at hp hq
  rcases hp with rfl | rfl <;> rcases hq with rfl | rfl <;> first | rfl | exact absurd e T.nP__law_times_right_law | exact absurd e.symm T.nP__law_times_right_law

end My

namespace My
open PySem PySem.Spec PyProof.Rows L2
/-! ### things and their kinds -/
def tyN : PyData → String
  | .none => "NoneType"
  | .bool _ => "bool"
  | .int _ => "int"
  | .str _ => "str"
  | .list _ => "list"
  | .tuple _ => "tuple"
  | .dict _ => "dict"
def isT : PyData → Bool
  | .tuple _ => true
  | _ => false
def isI : PyData → Bool
  | .int _ => true
  | .bool _ => true
  | _ => false
def isB : PyData → Bool
  | .bool _ => true
  | _ => false
theorem tyx {K : PySem.W.Frag} {H : Hp} {v : V} {d : PyData} (h : Dp K H v d) : TyX K H v (.type (tyN d)) := by
  cases h with
  | non => exact .base .non
  | bl b => exact .base (.bl b)
  | int i => exact .base (.int i)
  | str x => exact .base (.str x)
  | lst h _ =>
    rcases h with (h | ⟨o, h⟩) | ⟨o, its, n, h, hc, _⟩
    · exact .base (.lst h)
    · exact .base (.frz h)
    · exact .kList h hc
  | tup h _ =>
    rcases h with (h | ⟨o, h⟩) | ⟨o, its, n, h, hc, _⟩
    · exact .base (.tup h)
    · exact .fTuple h
    · exact .kTuple h hc
theorem kitI {K : PySem.W.Frag} : ∀ d : PyData, PySem.W.kitOne K (.type (tyN d)) (.type "int") = some (isI d)
  | .none => kit_ty (a := "NoneType") (b := "int") (r := false) (by decide +kernel)
  | .bool _ => kit_ty (a := "bool") (b := "int") (r := true) (by decide +kernel)
  | .int _ => kit_ty (a := "int") (b := "int") (r := true) (by decide +kernel)
  | .str _ => kit_ty (a := "str") (b := "int") (r := false) (by decide +kernel)
  | .list _ => kit_ty (a := "list") (b := "int") (r := false) (by decide +kernel)
  | .tuple _ => kit_ty (a := "tuple") (b := "int") (r := false) (by decide +kernel)
  | .dict _ => kit_ty (a := "dict") (b := "int") (r := false) (by decide +kernel)
theorem kitBo {K : PySem.W.Frag} : ∀ d : PyData, PySem.W.kitOne K (.type (tyN d)) (.type "bool") = some (isB d)
  | .none => kit_ty (a := "NoneType") (b := "bool") (r := false) (by decide +kernel)
  | .bool _ => kit_ty (a := "bool") (b := "bool") (r := true) (by decide +kernel)
  | .int _ => kit_ty (a := "int") (b := "bool") (r := false) (by decide +kernel)
  | .str _ => kit_ty (a := "str") (b := "bool") (r := false) (by decide +kernel)
  | .list _ => kit_ty (a := "list") (b := "bool") (r := false) (by decide +kernel)
  | .tuple _ => kit_ty (a := "tuple") (b := "bool") (r := false) (by decide +kernel)
  | .dict _ => kit_ty (a := "dict") (b := "bool") (r := false) (by decide +kernel)
theorem kitT {K : PySem.W.Frag} : ∀ d : PyData, PySem.W.kitOne K (.type (tyN d)) (.type "tuple") = some (isT d)
  | .none => kit_ty (a := "NoneType") (b := "tuple") (r := false) (by decide +kernel)
  | .bool _ => kit_ty (a := "bool") (b := "tuple") (r := false) (by decide +kernel)
  | .int _ => kit_ty (a := "int") (b := "tuple") (r := false) (by decide +kernel)
  | .str _ => kit_ty (a := "str") (b := "tuple") (r := false) (by decide +kernel)
  | .list _ => kit_ty (a := "list") (b := "tuple") (r := false) (by decide +kernel)
  | .tuple _ => kit_ty (a := "tuple") (b := "tuple") (r := true) (by decide +kernel)
  | .dict _ => kit_ty (a := "dict") (b := "tuple") (r := false) (by decide +kernel)
def btw (d : PyData) (lo hi : Int) : Bool := match d with
  | .int n => decide (lo ≤ n) && decide (n ≤ hi)
  | _ => false
def pairD : PyData → Bool
  | .tuple ds => decide ((ds.length : Int) = 2)
  | _ => false
theorem dpAll_len {K : PySem.W.Frag} {H : Hp} : ∀ {xs : List V} {ds : List PyData}, DpAll K H xs ds → xs.length = ds.length
  | _, _, .nil => rfl
  | _, _, .cons _ t => congrArg (· + 1) (dpAll_len t)
theorem dpAll_get {K : PySem.W.Frag} {H : Hp} : ∀ {xs : List V} {ds : List PyData} {i : Nat} {x : V}, DpAll K H xs ds → xs[i]? = some x → ∃ d, ds[i]? = some d ∧ Dp K H x d
  | _, _, _, _, .nil, h => by simp at h
  | _, _, 0, _, .cons h t, e => by
    simp at e
    subst e
    exact ⟨_, by simp, h⟩
  | _, _, i + 1, x, .cons h t, e => by
    obtain ⟨d, h1, h2⟩ := dpAll_get (i := i) (x := x) t (by simpa using e)
    exact ⟨d, by simpa using h1, h2⟩
theorem dpAll_get' {K : PySem.W.Frag} {H : Hp} {xs : List V} {ds : List PyData} {i : Nat} {d : PyData} (h : DpAll K H xs ds) (e : ds[i]? = some d) : ∃ x, xs[i]? = some x ∧ Dp K H x d := by
  have hl := dpAll_len h
  have hi := (List.getElem?_eq_some_iff.mp e).1
  obtain ⟨d', h1, h2⟩ := dpAll_get (i := i) (x := xs[i]) h (List.getElem?_eq_getElem (by omega))
  rw [e] at h1
  cases h1
  exact ⟨_, List.getElem?_eq_getElem (by omega), h2⟩
mutual
theorem dp_same {K : PySem.W.Frag} {H H' : Hp} (s : Same H H') : ∀ (d : PyData) (v : V), Dp K H v d → Dp K H' v d
  | .none, _, h => by cases h; exact .non
  | .bool _, _, h => by cases h; exact .bl _
  | .int _, _, h => by cases h; exact .int _
  | .str _, _, h => by cases h; exact .str _
  | .list ds, _, h => by
    cases h with
    | lst a b => exact .lst (s.seq a) (dpAll_same s ds _ b)
  | .tuple ds, _, h => by
    cases h with
    | tup a b => exact .tup (same_tup s a) (dpAll_same s ds _ b)
  | .dict _, _, h => by cases h
theorem dpAll_same {K : PySem.W.Frag} {H H' : Hp} (s : Same H H') : ∀ (ds : List PyData) (vs : List V), DpAll K H vs ds → DpAll K H' vs ds
  | [], _, h => by cases h; exact .nil
  | d :: ds, _, h => by
    cases h with
    | cons a b => exact .cons (dp_same s d _ a) (dpAll_same s ds _ b)
end
theorem dp_tup {K : PySem.W.Frag} {H : Hp} {v : V} {ds : List PyData} (h : Dp K H v (.tuple ds)) : ∃ a xs, v = .ref a ∧ SqT K H a xs ∧ DpAll K H xs ds := by
  cases h with
  | tup a b => exact ⟨_, _, rfl, a, b⟩
/-- hands back the value z, all stands -/
def Pure (K : PySem.W.Frag) (vs : List V) (H : Hp) (Q : VK) (args : List V) (z : V) : Prop := vs = args ∧ ∀ H', Same H H' → Q z H'
section
variable {P : Program} {w : World} {K : PySem.W.Frag} {mg : Str → Option Value} {base : Heap}
def intD (d : PyData) : Bool := isI d && !isB d
def sp_is_integer (K : PySem.W.Frag) : Sp := fun vs H Q _ => ∃ (x : V) (d : PyData), vs = [x] ∧ Dp K H x d ∧ ∀ H', Same H H' → Q (.bl (intD d)) H'
theorem ok_is_integer (T : Txt K mg) : FnOk P w K mg base CX0 1 T.f_is_integer T.d_is_integer ["thing"] (sp_is_integer K) := by
  refine T.F_is_integer.ok sc_is_integer (fun vs H Q E h => ?_) (fun cdv A outer s H vs Q E hr h => ?_)
  · obtain ⟨x, d, rfl, _⟩ := h
    rfl
  · obtain ⟨x, d, rfl, hd, q⟩ := h
    refine ⟨_,
(pss_one (ps_ret (pe_and (pe_callB (call_isi) (by rfl) T.z_isinstance (by decide +kernel) (pa_cons (pv 0) (pa_cons (pe_bltn (v := .ty "int") (by rfl) T.z_int (by decide +kernel) rfl) pa_nil))) (pe_one (pe_not (pe_callB (call_isi) (by rfl) T.z_isinstance (by decide +kernel) (pa_cons (pv 0) (pa_cons (pe_bltn (v := .ty "bool") (by rfl) T.z_bool (by decide +kernel) rfl) pa_nil))))))))
, ?_⟩
    have q' : ∀ b, intD d = b → Q (.bl b) H := fun b e => e ▸ q H (Same.refl H)
    refine ⟨x, rfl, x, .ty "int", _, _, _, rfl, .ty _, tyx hd, kitI d, _, rfl, ?_⟩
    cases h1 : isI d with
    | false => exact iteF (q' _ (by unfold intD; rw [h1]; rfl))
    | true =>
      refine iteT ?_
      refine ⟨_, rfl, _, .ty "bool", _, _, _, rfl, .ty _, tyx hd, kitBo d, _, rfl, ?_⟩
      exact q' _ (by unfold intD; rw [h1]; rfl)
theorem btw_not {d : PyData} (h : intD d = false) (lo hi : Int) : btw d lo hi = false := by
  cases d <;> first | rfl | cases h
theorem intD_int {d : PyData} (h : intD d = true) : ∃ n, d = .int n := by
  cases d <;> first | exact ⟨_, rfl⟩ | cases h
def sp_is_between (K : PySem.W.Frag) : Sp := fun vs H Q _ => ∃ (x : V) (d : PyData) (lo hi : Int), vs = [x, .int lo, .int hi] ∧ Dp K H x d ∧ ∀ H', Same H H' → Q (.bl (btw d lo hi)) H'
theorem ok_is_between (T : Txt K mg) : FnOk P w K mg base CX0 2 T.f_is_between T.d_is_between ["thing", "least", "most"] (sp_is_between K) := by
  refine T.F_is_between.ok sc_is_between (fun vs H Q E h => ?_) (fun cdv A outer s H vs Q E hr h => ?_)
  · obtain ⟨x, d, lo, hi, rfl, _⟩ := h
    rfl
  · obtain ⟨x, d, lo, hi, rfl, hd, q⟩ := h
    refine ⟨_,
(pss_one (ps_ret (pe_and (pe_call (ok_is_integer T) (hr.mono (by decide)) (by rfl) T.g_is_integer T.F_is_integer.kp T.b_is_integer .nil pass0 (pa_cons (pv 0) pa_nil)) (pe_one (pe_chain op_le op_le (pv 1) (pv 0) (pv 2))))))
, ?_⟩
    refine ⟨x, rfl, x, d, rfl, hd, fun H1 s1 => ⟨_, rfl, ?_⟩⟩
    have q' : ∀ b, btw d lo hi = b → Q (.bl b) H1 := fun b e => e ▸ q H1 s1
    cases h1 : intD d with
    | false => exact iteF (q' _ (btw_not h1 lo hi))
    | true =>
      obtain ⟨n, rfl⟩ := intD_int h1
      cases hd
      refine iteT ?_
      refine ⟨_, rfl, _, rfl, lo, n, rfl, rfl, _, rfl, ?_⟩
      refine ite2 (fun e => ?_) (fun e => ?_)
      · refine ⟨_, rfl, n, hi, rfl, rfl, ?_⟩
        exact q' _ (by show (decide (lo ≤ n) && decide (n ≤ hi)) = _; rw [e]; rfl)
      · exact q' _ (by show (decide (lo ≤ n) && decide (n ≤ hi)) = _; rw [Bool.not_eq_true] at e; rw [e]; rfl)
def sp_is_pair (K : PySem.W.Frag) : Sp := fun vs H Q _ => ∃ (x : V) (d : PyData), vs = [x] ∧ Dp K H x d ∧ ∀ H', Same H H' → Q (.bl (pairD d)) H'
theorem ok_is_pair (T : Txt K mg) : FnOk P w K mg base CX0 2 T.f_is_pair T.d_is_pair ["thing"] (sp_is_pair K) := by
  refine T.F_is_pair.ok sc_is_pair (fun vs H Q E h => ?_) (fun cdv A outer s H vs Q E hr h => ?_)
  · obtain ⟨x, d, rfl, _⟩ := h
    rfl
  · obtain ⟨x, d, rfl, hd, q⟩ := h
    refine ⟨_,
(pss_one (ps_ret (pe_and (pe_callB (call_isi) (by rfl) T.z_isinstance (by decide +kernel) (pa_cons (pv 0) (pa_cons (pe_bltn (v := .ty "tuple") (by rfl) T.z_tuple (by decide +kernel) rfl) pa_nil))) (pe_one (pe_cmpR op_eq (pe_callB (call_len_seq) (by rfl) T.z_len (by decide +kernel) (pa_cons (pv 0) pa_nil)) pe_int (nomark _))))))
, ?_⟩
    have q' : ∀ b, pairD d = b → Q (.bl b) H := fun b e => e ▸ q H (Same.refl H)
    refine ⟨x, rfl, x, .ty "tuple", _, _, _, rfl, .ty _, tyx hd, kitT d, _, rfl, ?_⟩
    cases hd with
    | tup h1 h2 =>
      refine iteT ?_
      refine ⟨_, rfl, _, _, rfl, .inr h1, rfl, ?_⟩
      exact q' _ (by show decide _ = decide _; rw [dpAll_len h2]; congr 1; simp)
    | non => exact iteF (q H (Same.refl H))
    | int n => exact iteF (q H (Same.refl H))
    | bl b => exact iteF (q H (Same.refl H))
    | str z => exact iteF (q H (Same.refl H))
    | lst _ _ => exact iteF (q H (Same.refl H))
def tupD (d : PyData) (lo hi : Int) : Bool := match d with
  | .tuple ds => decide (lo ≤ (ds.length : Int)) && decide ((ds.length : Int) ≤ hi)
  | _ => false
def sp_is_tuple_of (K : PySem.W.Frag) : Sp := fun vs H Q _ => ∃ (x : V) (d : PyData) (lo hi : Int), vs = [x, .int lo, .int hi] ∧ Dp K H x d ∧ ∀ H', Same H H' → Q (.bl (tupD d lo hi)) H'
theorem ok_is_tuple_of (T : Txt K mg) : FnOk P w K mg base CX0 2 T.f__is_tuple_of T.d__is_tuple_of ["thing", "least", "most"] (sp_is_tuple_of K) := by
  refine T.F__is_tuple_of.ok sc_is_tuple_of (fun vs H Q E h => ?_) (fun cdv A outer s H vs Q E hr h => ?_)
  · obtain ⟨x, d, lo, hi, rfl, _⟩ := h
    rfl
  · obtain ⟨x, d, lo, hi, rfl, hd, q⟩ := h
    refine ⟨_,
(pss_one (ps_ret (pe_and (pe_callB (call_isi) (by rfl) T.z_isinstance (by decide +kernel) (pa_cons (pv 0) (pa_cons (pe_bltn (v := .ty "tuple") (by rfl) T.z_tuple (by decide +kernel) rfl) pa_nil))) (pe_one (pe_chain op_le op_le (pv 1) (pe_callB (call_len_seq) (by rfl) T.z_len (by decide +kernel) (pa_cons (pv 0) pa_nil)) (pv 2))))))
, ?_⟩
    have q' : ∀ b, tupD d lo hi = b → Q (.bl b) H := fun b e => e ▸ q H (Same.refl H)
    refine ⟨x, rfl, x, .ty "tuple", _, _, _, rfl, .ty _, tyx hd, kitT d, _, rfl, ?_⟩
    cases hd with
    | @tup a xs ds h1 h2 =>
      refine iteT ?_
      refine ⟨_, rfl, _, rfl, _, _, rfl, .inr h1, lo, _, rfl, rfl, _, rfl, ?_⟩
      have hl : xs.length = ds.length := dpAll_len h2
      refine ite2 (fun e => ?_) (fun e => ?_)
      · refine ⟨_, rfl, _, hi, rfl, rfl, ?_⟩
        exact q' _ (by show (decide (lo ≤ (ds.length : Int)) && decide ((ds.length : Int) ≤ hi)) = _; rw [← hl, e]; rfl)
      · exact q' _ (by show (decide (lo ≤ (ds.length : Int)) && decide ((ds.length : Int) ≤ hi)) = _; rw [← hl]; rw [Bool.not_eq_true] at e; rw [e]; rfl)
    | non => exact iteF (q H (Same.refl H))
    | int n => exact iteF (q H (Same.refl H))
    | bl b => exact iteF (q H (Same.refl H))
    | str z => exact iteF (q H (Same.refl H))
    | lst _ _ => exact iteF (q H (Same.refl H))
def moveD : PyData → Bool
  | .tuple [a, b] => btw a (-32) 32 && btw b (-15) 15
  | _ => false
def sp_is_move (K : PySem.W.Frag) : Sp := fun vs H Q _ => ∃ (x : V) (d : PyData), vs = [x] ∧ Dp K H x d ∧ ∀ H', Same H H' → Q (.bl (moveD d)) H'
theorem ok_is_move (T : Txt K mg) : FnOk P w K mg base CX0 3 T.f__is_move T.d__is_move ["thing"] (sp_is_move K) := by
  refine T.F__is_move.ok sc_is_move (fun vs H Q E h => ?_) (fun cdv A outer s H vs Q E hr h => ?_)
  · obtain ⟨x, d, rfl, _⟩ := h
    rfl
  · obtain ⟨x, d, rfl, hd, q⟩ := h
    refine ⟨_,
(pss_one (ps_ret (pe_and (pe_call (ok_is_pair T) (hr.mono (by decide)) (by rfl) T.g_is_pair T.F_is_pair.kp T.b_is_pair .nil pass0 (pa_cons (pv 0) pa_nil)) (pe_and (pe_call (ok_is_between T) (hr.mono (by decide)) (by rfl) T.g_is_between T.F_is_between.kp T.b_is_between .nil pass0 (pa_cons (pe_ix ix_tup (pv 0) pe_int (fun _ _ => rfl)) (pa_cons (pe_un un_neg pe_int) (pa_cons pe_int pa_nil)))) (pe_one (pe_call (ok_is_between T) (hr.mono (by decide)) (by rfl) T.g_is_between T.F_is_between.kp T.b_is_between .nil pass0 (pa_cons (pe_ix ix_tup (pv 0) pe_int (fun _ _ => rfl)) (pa_cons (pe_un un_neg pe_int) (pa_cons pe_int pa_nil)))))))))
, ?_⟩
    have q' : ∀ b H', Same H H' → moveD d = b → Q (.bl b) H' := fun b H' s e => e ▸ q H' s
    refine ⟨x, rfl, x, d, rfl, hd, fun H1 s1 => ⟨_, rfl, ?_⟩⟩
    by_cases hp : pairD d = true
    · rw [hp]
      refine iteT ?_
      obtain ⟨da, db, rfl⟩ : ∃ da db, d = .tuple [da, db] := by
        cases d with
        | tuple ds =>
          match ds, hp with
          | [a, b], _ => exact ⟨a, b, rfl⟩
          | [], hp => cases hp
          | [a], hp => cases hp
          | a :: b :: c :: r, hp =>
            have := of_decide_eq_true (show decide (((a :: b :: c :: r).length : Int) = 2) = true from hp)
            simp at this
            omega
        | _ => cases hp
      obtain ⟨a, xs, rfl, ha, hds⟩ := dp_tup hd
      have ha1 := same_tup s1 ha
      obtain ⟨x0, e0, h0⟩ := dpAll_get' hds (i := 0) rfl
      obtain ⟨x1, e1, h1⟩ := dpAll_get' hds (i := 1) rfl
      refine ⟨_, rfl, a, xs, 0, x0, rfl, rfl, ha1, atI_nat (j := 0) e0, 32, rfl, x0, da, -32, 32, rfl, dp_same s1 _ _ h0, fun H2 s2 => ⟨_, rfl, ?_⟩⟩
      have ha2 := same_tup s2 ha1
      cases hb : btw da (-32) 32 with
      | false =>
        refine iteF ?_
        exact q' _ H2 (s1.trans s2) (by show (btw da (-32) 32 && btw db (-15) 15) = false; rw [hb]; rfl)
      | true =>
        refine iteT ?_
        refine ⟨_, rfl, a, xs, 1, x1, rfl, rfl, ha2, atI_nat (j := 1) e1, 15, rfl, x1, db, -15, 15, rfl, dp_same s2 _ _ (dp_same s1 _ _ h1), fun H3 s3 => ?_⟩
        exact q' _ H3 ((s1.trans s2).trans s3) (by show (btw da (-32) 32 && btw db (-15) 15) = _; rw [hb]; rfl)
    · rw [Bool.not_eq_true] at hp
      rw [hp]
      refine iteF ?_
      have e : moveD d = false := by
        unfold moveD
        split
        · cases hp
        · rfl
      exact q' _ H1 s1 e
def fadeD (d : PyData) : Bool := btw d 0 0 || btw d 2 99
def sp_is_fade (K : PySem.W.Frag) : Sp := fun vs H Q _ => ∃ (x : V) (d : PyData), vs = [x] ∧ Dp K H x d ∧ ∀ H', Same H H' → Q (.bl (fadeD d)) H'
theorem ok_is_fade (T : Txt K mg) : FnOk P w K mg base CX0 3 T.f__is_fade T.d__is_fade ["thing"] (sp_is_fade K) := by
  refine T.F__is_fade.ok sc_is_fade (fun vs H Q E h => ?_) (fun cdv A outer s H vs Q E hr h => ?_)
  · obtain ⟨x, d, rfl, _⟩ := h
    rfl
  · obtain ⟨x, d, rfl, hd, q⟩ := h
    refine ⟨_,
(pss_one (ps_ret (pe_or (pe_call (ok_is_between T) (hr.mono (by decide)) (by rfl) T.g_is_between T.F_is_between.kp T.b_is_between .nil pass0 (pa_cons (pv 0) (pa_cons pe_int (pa_cons pe_int pa_nil)))) (pe_one (pe_call (ok_is_between T) (hr.mono (by decide)) (by rfl) T.g_is_between T.F_is_between.kp T.b_is_between .nil pass0 (pa_cons (pv 0) (pa_cons pe_int (pa_cons pe_int pa_nil))))))))
, ?_⟩
    have q' : ∀ b H', Same H H' → fadeD d = b → Q (.bl b) H' := fun b H' s e => e ▸ q H' s
    refine ⟨x, rfl, x, d, 0, 0, rfl, hd, fun H1 s1 => ⟨_, rfl, ?_⟩⟩
    cases hb : btw d 0 0 with
    | true =>
      refine iteT ?_
      exact q' _ H1 s1 (by unfold fadeD; rw [hb]; rfl)
    | false =>
      refine iteF ?_
      refine ⟨x, rfl, x, d, 2, 99, rfl, dp_same s1 _ _ hd, fun H2 s2 => ?_⟩
      exact q' _ H2 (s1.trans s2) (by unfold fadeD; rw [hb]; rfl)
end
end My

namespace My
open PySem PySem.Spec PyProof.Rows L2
theorem for_enumT {K : PySem.W.Frag} {a : Addr} {xs : List V} {g : TG} {tb : L2.TS} {D : Ends} {σ : L2.St} {H : Hp} (Pv : Nat → L2.St → Hp → Prop) (h0 : Pv 0 σ H)
    (still : ∀ i σ H, i ≤ xs.length → Pv i σ H → SqT K H a xs)
    (turn : ∀ i x σ H T, xs[i]? = some x → Pv i σ H → H T = none → g (.ref T) σ (upd H T (.tup [.int (i : Nat), x])) fun σ2 H2 => tb { D with nx := Pv (i + 1), ct := Pv (i + 1), bk := D.nx } σ2 H2)
    (fin : ∀ σ H, Pv xs.length σ H → D.nx σ H) :
    ∃ W : Nat → Nat → L2.St → Hp → Prop, (∃ m, W 0 m σ H) ∧ ∀ i m σ H, W i m σ H →
      ((Itu K a).stop i H ∧ D.nx σ H) ∨ ((Itu K a).go i H ∧ ∃ N : L2.St → Hp → Prop, (∀ σ' H', N σ' H' → ∃ m', m' < m ∧ W (i + 1) m' σ' H') ∧ ∀ x H', (Itu K a).yld i H x H' → g x σ H' fun σ2 H2 => tb { D with nx := N, ct := N, bk := D.nx } σ2 H2) := by
  refine ⟨fun i m σ H => m + i = xs.length ∧ Pv i σ H, ⟨xs.length, by omega, h0⟩, ?_⟩
  rintro i m σ H ⟨hm, p⟩
  have q := still i σ H (by omega) p
  rcases Nat.lt_or_ge i xs.length with hlt | hge
  · refine Or.inr ⟨⟨xs, xs[i], q, List.getElem?_eq_getElem hlt⟩, Pv (i + 1), fun σ' H' p' => ⟨m - 1, by omega, by omega, p'⟩, ?_⟩
    rintro v H' ⟨T, x, rfl, hT, rfl, hx⟩
    exact turn i x σ H T (hx xs q) p hT
  · have e : i = xs.length := by omega
    exact Or.inl ⟨⟨xs, q, e.symm⟩, fin σ H (e ▸ p)⟩
theorem st_tail {t u : L2.TS} {D : Ends} {σ : L2.St} {H : Hp} (R : L2.St → Hp → Prop) (hR : ∀ σ H, R σ H → u D σ H)
    (h : (∀ σ H, R σ H → u D σ H) → t { D with nx := u D } σ H) : tSeq t u D σ H := h hR
/-- the place of the first thing of which p does not hold -/
def badAt (p : PyData → Bool) : Nat → List PyData → Option Nat
  | _, [] => none
  | i, d :: r => if p d = true then badAt p (i + 1) r else some i
theorem badAt_step {p : PyData → Bool} {ds : List PyData} {i : Nat} {d : PyData} (h : ds[i]? = some d) : badAt p i (ds.drop i) = if p d = true then badAt p (i + 1) (ds.drop (i + 1)) else some i := by
  have hi := (List.getElem?_eq_some_iff.mp h).1
  have e : ds.drop i = d :: ds.drop (i + 1) := by
    rw [List.drop_eq_getElem_cons hi]
    rw [List.getElem?_eq_getElem hi] at h
    rw [Option.some.inj h]
  rw [e]
  rfl
def noOr : Option Nat → PyData
  | none => .none
  | some i => .int i
def faultD (s : Str) : Option Nat → PyData
  | none => .none
  | some i => .tuple [.str s, .int i]
def rowF (s : Str) (lo hi : Int) (p : PyData → Bool) (d : PyData) : PyData := match d with
  | .tuple ds => if tupD (.tuple ds) lo hi = true then faultD s (badAt p 0 ds) else .tuple [.str s, .none]
  | _ => .tuple [.str s, .none]
def stepsF : PyData → PyData := rowF "steps" 1 16 (btw · 1 9999)
def movesF : PyData → PyData := rowF "moves" 2 16 moveD
theorem upd_tup {K : PySem.W.Frag} {H : Hp} {p : Addr} {xs : List V} : SqT K (upd H p (.tup xs)) p xs := .inl (.inl upd_same)
section
variable {P : Program} {w : World} {K : PySem.W.Frag} {mg : Str → Option Value} {base : Heap}
/-- hands back a thing that is f of the argument -/
def spF (K : PySem.W.Frag) (f : PyData → PyData) : Sp := fun vs H Q _ => ∃ (x : V) (d : PyData), vs = [x] ∧ Dp K H x d ∧ ∀ z H', Same H H' → Dp K H' z (f d) → Q z H'
theorem ok_fault_of_steps (T : Txt K mg) : FnOk P w K mg base CX0 3 T.f__fault_of_steps T.d__fault_of_steps ["steps"] (spF K stepsF) := by
  refine T.F__fault_of_steps.ok sc_fault_of_steps (fun vs H Q E h => ?_) (fun cdv A outer s H vs Q E hr h => ?_)
  · obtain ⟨x, d, rfl, _⟩ := h
    rfl
  · obtain ⟨x, d, rfl, hd, q⟩ := h
    have q' : ∀ z H' e, Same H H' → stepsF d = e → Dp K H' z e → Q z H' := fun z H' e s ee hz => q z H' s (ee ▸ hz)
    refine ⟨_,
(pss_cons (ps_if (pt_not (pt_val (pe_call (ok_is_tuple_of T) (hr.mono (by decide)) (by rfl) T.g__is_tuple_of T.F__is_tuple_of.kp T.b__is_tuple_of .nil pass0 (pa_cons (pv 0) (pa_cons pe_int (pa_cons pe_int pa_nil)))))) (pss_one (ps_ret (pe_tup (pa_cons pe_str (pa_cons pe_non pa_nil))))) pss_nil)
      (pss_cons (ps_for PassesOwn.never rfl (My.pi_enumT (by rfl) T.z_enumerate (pa_cons (pv 0) pa_nil)) (pg_tup (by rfl) (pgs_cons (pg_name (i := 1) sc_fault_of_steps.nd rfl (Or.inl rfl)) (pgs_cons (pg_name (i := 2) sc_fault_of_steps.nd rfl (Or.inl rfl)) pgs_nil))) (pss_one (ps_if (pt_not (pt_val (pe_call (ok_is_between T) (hr.mono (by decide)) (by rfl) T.g_is_between T.F_is_between.kp T.b_is_between .nil pass0 (pa_cons (pv 2) (pa_cons pe_int (pa_cons pe_int pa_nil)))))) (pss_one (ps_ret (pe_tup (pa_cons pe_str (pa_cons (pv 1) pa_nil))))) pss_nil)))
      (pss_one (ps_ret pe_non))))
, ?_⟩
    refine ⟨x, rfl, x, d, 1, 16, rfl, hd, fun H1 s1 => ⟨_, rfl, ?_⟩⟩
    cases hb : tupD d 1 16 with
    | false =>
      refine iteT ?_
      refine ⟨by decide, fun p hp => ?_⟩
      refine q' _ _ _ (s1.trans (same_new hp)) ?_ (.tup upd_tup (.cons (.str _) (.cons .non .nil)))
      unfold stepsF rowF
      split
      · rw [hb]; rfl
      · rfl
    | true =>
      refine iteF ?_
      obtain ⟨ds, rfl⟩ : ∃ ds, d = .tuple ds := by
        cases d with
        | tuple ds => exact ⟨ds, rfl⟩
        | _ => cases hb
      obtain ⟨a, xs, rfl, ha, hds⟩ := dp_tup hd
      have hF : stepsF (.tuple ds) = faultD "steps" (badAt (btw · 1 9999) 0 ds) := by
        show (if _ then _ else _) = _
        rw [if_pos hb]
      refine ⟨.ref a, rfl, a, xs, rfl, same_tup s1 ha, ?_⟩
      refine for_enumT (K := K) (a := a) (xs := xs) (fun i σ H' => ∃ y1 y2, σ = [some (.ref a), y1, y2] ∧ Same H H' ∧ badAt (btw · 1 9999) 0 ds = badAt (btw · 1 9999) i (ds.drop i)) ⟨none, none, rfl, s1, rfl⟩ ?_ ?_ ?_
      · rintro i σ H' _ ⟨_, _, _, s2, _⟩
        exact same_tup s2 ha
      · rintro i v σ H' p hi ⟨y1, y2, rfl, s2, hbad⟩ hp
        obtain ⟨dv, hdv, hv⟩ := dpAll_get hds hi
        rw [badAt_step hdv] at hbad
        have s3 := s2.trans (same_new (o := .tup [.int (i : Nat), v]) hp)
        refine ⟨p, _, rfl, upd_tup, rfl, _, _, rfl, _, _, rfl, rfl, ?_⟩
        refine ⟨_, rfl, v, dv, 1, 9999, rfl, dp_same s3 _ _ hv, fun H2 s4 => ⟨_, rfl, ?_⟩⟩
        cases hg : btw dv 1 9999 with
        | true =>
          refine iteF ?_
          rw [hg] at hbad
          exact ⟨_, _, rfl, s3.trans s4, hbad⟩
        | false =>
          refine iteT ?_
          rw [hg] at hbad
          refine ⟨_, rfl, by show 2 ≤ sizeLine; decide, fun p2 hp2 => ?_⟩
          refine q' _ _ _ ((s3.trans s4).trans (same_new hp2)) (hF.trans ?_) (.tup upd_tup (.cons (.str _) (.cons (.int _) .nil)))
          rw [hbad]
          rfl
      · rintro σ H' ⟨y1, y2, rfl, s2, hbad⟩
        refine q' _ _ _ s2 (hF.trans ?_) .non
        rw [hbad, dpAll_len hds, List.drop_length]
        rfl
theorem ok_fault_of_moves (T : Txt K mg) : FnOk P w K mg base CX0 4 T.f__fault_of_moves T.d__fault_of_moves ["moves"] (spF K movesF) := by
  refine T.F__fault_of_moves.ok sc_fault_of_moves (fun vs H Q E h => ?_) (fun cdv A outer s H vs Q E hr h => ?_)
  · obtain ⟨x, d, rfl, _⟩ := h
    rfl
  · obtain ⟨x, d, rfl, hd, q⟩ := h
    have q' : ∀ z H' e, Same H H' → movesF d = e → Dp K H' z e → Q z H' := fun z H' e s ee hz => q z H' s (ee ▸ hz)
    refine ⟨_,
(pss_cons (ps_if (pt_not (pt_val (pe_call (ok_is_tuple_of T) (hr.mono (by decide)) (by rfl) T.g__is_tuple_of T.F__is_tuple_of.kp T.b__is_tuple_of .nil pass0 (pa_cons (pv 0) (pa_cons pe_int (pa_cons pe_int pa_nil)))))) (pss_one (ps_ret (pe_tup (pa_cons pe_str (pa_cons pe_non pa_nil))))) pss_nil)
      (pss_cons (ps_for PassesOwn.never rfl (My.pi_enumT (by rfl) T.z_enumerate (pa_cons (pv 0) pa_nil)) (pg_tup (by rfl) (pgs_cons (pg_name (i := 1) sc_fault_of_moves.nd rfl (Or.inl rfl)) (pgs_cons (pg_name (i := 2) sc_fault_of_moves.nd rfl (Or.inl rfl)) pgs_nil))) (pss_one (ps_if (pt_not (pt_val (pe_call (ok_is_move T) (hr.mono (by decide)) (by rfl) T.g__is_move T.F__is_move.kp T.b__is_move .nil pass0 (pa_cons (pv 2) pa_nil)))) (pss_one (ps_ret (pe_tup (pa_cons pe_str (pa_cons (pv 1) pa_nil))))) pss_nil)))
      (pss_one (ps_ret pe_non))))
, ?_⟩
    refine ⟨x, rfl, x, d, 2, 16, rfl, hd, fun H1 s1 => ⟨_, rfl, ?_⟩⟩
    cases hb : tupD d 2 16 with
    | false =>
      refine iteT ?_
      refine ⟨by decide, fun p hp => ?_⟩
      refine q' _ _ _ (s1.trans (same_new hp)) ?_ (.tup upd_tup (.cons (.str _) (.cons .non .nil)))
      unfold movesF rowF
      split
      · rw [hb]; rfl
      · rfl
    | true =>
      refine iteF ?_
      obtain ⟨ds, rfl⟩ : ∃ ds, d = .tuple ds := by
        cases d with
        | tuple ds => exact ⟨ds, rfl⟩
        | _ => cases hb
      obtain ⟨a, xs, rfl, ha, hds⟩ := dp_tup hd
      have hF : movesF (.tuple ds) = faultD "moves" (badAt moveD 0 ds) := by
        show (if _ then _ else _) = _
        rw [if_pos hb]
      refine ⟨.ref a, rfl, a, xs, rfl, same_tup s1 ha, ?_⟩
      refine for_enumT (K := K) (a := a) (xs := xs) (fun i σ H' => ∃ y1 y2, σ = [some (.ref a), y1, y2] ∧ Same H H' ∧ badAt moveD 0 ds = badAt moveD i (ds.drop i)) ⟨none, none, rfl, s1, rfl⟩ ?_ ?_ ?_
      · rintro i σ H' _ ⟨_, _, _, s2, _⟩
        exact same_tup s2 ha
      · rintro i v σ H' p hi ⟨y1, y2, rfl, s2, hbad⟩ hp
        obtain ⟨dv, hdv, hv⟩ := dpAll_get hds hi
        rw [badAt_step hdv] at hbad
        have s3 := s2.trans (same_new (o := .tup [.int (i : Nat), v]) hp)
        refine ⟨p, _, rfl, upd_tup, rfl, _, _, rfl, _, _, rfl, rfl, ?_⟩
        refine ⟨_, rfl, v, dv, rfl, dp_same s3 _ _ hv, fun H2 s4 => ⟨_, rfl, ?_⟩⟩
        cases hg : moveD dv with
        | true =>
          refine iteF ?_
          rw [hg] at hbad
          exact ⟨_, _, rfl, s3.trans s4, hbad⟩
        | false =>
          refine iteT ?_
          rw [hg] at hbad
          refine ⟨_, rfl, by show 2 ≤ sizeLine; decide, fun p2 hp2 => ?_⟩
          refine q' _ _ _ ((s3.trans s4).trans (same_new hp2)) (hF.trans ?_) (.tup upd_tup (.cons (.str _) (.cons (.int _) .nil)))
          rw [hbad]
          rfl
      · rintro σ H' ⟨y1, y2, rfl, s2, hbad⟩
        refine q' _ _ _ s2 (hF.trans ?_) .non
        rw [hbad, dpAll_len hds, List.drop_length]
        rfl
/-- the five things -/
def codF (low high steps moves fade : PyData) : PyData :=
  if btw low (-32768) 0 = true then
    if btw high 0 32767 = true then
      match stepsF steps with
      | .none => (match movesF moves with
        | .none => if fadeD fade = true then .none else .tuple [.str "fade", .none]
        | e => e)
      | e => e
    else .tuple [.str "high", .none]
  else .tuple [.str "low", .none]
def firstF : PyData → PyData
  | .tuple [low, high, steps, moves, fade] => codF low high steps moves fade
  | _ => .tuple [.str "form", .none]
def isN : PyData → Bool
  | .none => true
  | _ => false
theorem dp_isN {K : PySem.W.Frag} {H : Hp} {z : V} {e : PyData} (h : Dp K H z e) : decide (z = V.non) = isN e := by
  cases h <;> rfl
theorem len5 {ds : List PyData} (h : ds.length = 5) : ∃ a b c d e, ds = [a, b, c, d, e] := by
  match ds, h with
  | [a, b, c, d, e], _ => exact ⟨a, b, c, d, e, rfl⟩
theorem dpAll5 {K : PySem.W.Frag} {H : Hp} {xs : List V} {a b c d e : PyData} (h : DpAll K H xs [a, b, c, d, e]) : ∃ x1 x2 x3 x4 x5, xs = [x1, x2, x3, x4, x5] ∧ Dp K H x1 a ∧ Dp K H x2 b ∧ Dp K H x3 c ∧ Dp K H x4 d ∧ Dp K H x5 e := by
  cases h with
  | cons h1 h => cases h with
    | cons h2 h => cases h with
      | cons h3 h => cases h with
        | cons h4 h => cases h with
          | cons h5 h => cases h with
            | nil => exact ⟨_, _, _, _, _, rfl, h1, h2, h3, h4, h5⟩
theorem ok_first_fault (T : Txt K mg) : FnOk P w K mg base CX0 5 T.f__first_fault T.d__first_fault ["thing"] (spF K firstF) := by
  refine T.F__first_fault.ok sc_first_fault (fun vs H Q E h => ?_) (fun cdv A outer s H vs Q E hr h => ?_)
  · obtain ⟨x, d, rfl, _⟩ := h
    rfl
  · obtain ⟨x, d, rfl, hd, q⟩ := h
    have q' : ∀ z H' e, Same H H' → firstF d = e → Dp K H' z e → Q z H' := fun z H' e s ee hz => q z H' s (ee ▸ hz)
    refine ⟨_,
(pss_cons (ps_if (PW.pt (pw_or (pt_not (pt_val (pe_callB (call_isi) (by rfl) T.z_isinstance (by decide +kernel) (pa_cons (pv 0) (pa_cons (pe_bltn (v := .ty "tuple") (by rfl) T.z_tuple (by decide +kernel) rfl) pa_nil))))) (pw_or1 (pt_cmpR op_ne (pe_callB (call_len_seq) (by rfl) T.z_len (by decide +kernel) (pa_cons (pv 0) pa_nil)) pe_int (nomark _))))) (pss_one (ps_ret (pe_tup (pa_cons pe_str (pa_cons pe_non pa_nil))))) pss_nil)
      (pss_cons (ps_asg (pv 0) (pg_tup (by rfl) (pgs_cons (pg_name (i := 1) sc_first_fault.nd rfl (Or.inl rfl)) (pgs_cons (pg_name (i := 2) sc_first_fault.nd rfl (Or.inl rfl)) (pgs_cons (pg_name (i := 3) sc_first_fault.nd rfl (Or.inl rfl)) (pgs_cons (pg_name (i := 4) sc_first_fault.nd rfl (Or.inl rfl)) (pgs_cons (pg_name (i := 5) sc_first_fault.nd rfl (Or.inl rfl)) pgs_nil)))))))
      (pss_cons (ps_if (pt_not (pt_val (pe_call (ok_is_between T) (hr.mono (by decide)) (by rfl) T.g_is_between T.F_is_between.kp T.b_is_between .nil pass0 (pa_cons (pv 1) (pa_cons (pe_un un_neg pe_int) (pa_cons pe_int pa_nil)))))) (pss_one (ps_ret (pe_tup (pa_cons pe_str (pa_cons pe_non pa_nil))))) pss_nil)
      (pss_cons (ps_if (pt_not (pt_val (pe_call (ok_is_between T) (hr.mono (by decide)) (by rfl) T.g_is_between T.F_is_between.kp T.b_is_between .nil pass0 (pa_cons (pv 2) (pa_cons pe_int (pa_cons pe_int pa_nil)))))) (pss_one (ps_ret (pe_tup (pa_cons pe_str (pa_cons pe_non pa_nil))))) pss_nil)
      (pss_cons (ps_set (i := 6) sc_first_fault.nd rfl (Or.inl rfl) (pe_call (ok_fault_of_steps T) (hr.mono (by decide)) (by rfl) T.g__fault_of_steps T.F__fault_of_steps.kp T.b__fault_of_steps .nil pass0 (pa_cons (pv 3) pa_nil)))
      (pss_cons (ps_if (pt_cmpR op_isN (pv 6) pe_non (nomark _)) (pss_one (ps_set (i := 6) sc_first_fault.nd rfl (Or.inl rfl) (pe_call (ok_fault_of_moves T) (hr.mono (by decide)) (by rfl) T.g__fault_of_moves T.F__fault_of_moves.kp T.b__fault_of_moves .nil pass0 (pa_cons (pv 4) pa_nil)))) pss_nil)
      (pss_cons (ps_if (PW.pt (pw_and (pt_cmpR op_isN (pv 6) pe_non (nomark _)) (pw_and1 (pt_not (pt_val (pe_call (ok_is_fade T) (hr.mono (by decide)) (by rfl) T.g__is_fade T.F__is_fade.kp T.b__is_fade .nil pass0 (pa_cons (pv 5) pa_nil))))))) (pss_one (ps_set (i := 6) sc_first_fault.nd rfl (Or.inl rfl) (pe_tup (pa_cons pe_str (pa_cons pe_non pa_nil))))) pss_nil)
      (pss_one (ps_ret (pv 6))))))))))
, ?_⟩
    refine ⟨x, rfl, x, .ty "tuple", _, _, _, rfl, .ty _, tyx hd, kitT d, _, rfl, ?_⟩
    -- no tuple of five things
    have bad : (∀ a b c e f, d ≠ .tuple [a, b, c, e, f]) → ∀ H1, Same H H1 → ([V.str "form", V.non].length ≤ sizeLine ∧ ∀ p, H1 p = none → Q (.ref p) (upd H1 p (.tup [V.str "form", V.non]))) := fun nd H1 s1 => by
      refine ⟨by decide, fun p hp => q' _ _ _ (s1.trans (same_new hp)) ?_ (.tup upd_tup (.cons (.str _) (.cons .non .nil)))⟩
      unfold firstF
      split
      · exact absurd rfl (nd _ _ _ _ _)
      · rfl
    cases hT : isT d with
    | false =>
      refine iteT ?_
      exact bad (fun a b c e f z => by rw [z] at hT; cases hT) H (Same.refl H)
    | true =>
      refine iteF ?_
      obtain ⟨ds, rfl⟩ : ∃ ds, d = .tuple ds := by
        cases d with
        | tuple ds => exact ⟨ds, rfl⟩
        | _ => cases hT
      obtain ⟨a, xs, rfl, ha, hds⟩ := dp_tup hd
      refine ⟨_, rfl, a, xs, rfl, .inr ha, rfl, _, rfl, ?_⟩
      have hl := dpAll_len hds
      by_cases h5 : ds.length = 5
      · have e5 : decide (V.int (xs.length : Int) = V.int 5) = true := by rw [hl, h5]; rfl
        rw [e5]
        refine iteF ?_
        obtain ⟨low, high, steps, moves, fade, rfl⟩ := len5 h5
        obtain ⟨x1, x2, x3, x4, x5, rfl, d1, d2, d3, d4, d5⟩ := dpAll5 hds
        have hF : firstF (.tuple [low, high, steps, moves, fade]) = codF low high steps moves fade := rfl
        rw [hF] at q'
        refine ⟨_, rfl, a, _, rfl, ha, rfl, _, _, rfl, _, _, rfl, _, _, rfl, _, _, rfl, _, _, rfl, rfl, ?_⟩
        refine ⟨_, rfl, 32768, rfl, x1, low, -32768, 0, rfl, d1, fun H1 s1 => ⟨_, rfl, ?_⟩⟩
        cases b1 : btw low (-32768) 0 with
        | false =>
          refine iteT ?_
          refine ⟨by decide, fun p hp => q' _ _ _ (s1.trans (same_new hp)) ?_ (.tup upd_tup (.cons (.str "low") (.cons .non .nil)))⟩
          unfold codF
          rw [b1]
          rfl
        | true =>
        refine iteF ?_
        refine ⟨_, rfl, x2, high, 0, 32767, rfl, dp_same s1 _ _ d2, fun H2 s2 => ⟨_, rfl, ?_⟩⟩
        have s12 := s1.trans s2
        cases b2 : btw high 0 32767 with
        | false =>
          refine iteT ?_
          refine ⟨by decide, fun p hp => q' _ _ _ (s12.trans (same_new hp)) ?_ (.tup upd_tup (.cons (.str "high") (.cons .non .nil)))⟩
          unfold codF
          rw [b1, b2]
          rfl
        | true =>
        refine iteF ?_
        refine ⟨_, rfl, x3, steps, rfl, dp_same s12 _ _ d3, fun z1 H3 s3 hz1 => ?_⟩
        have s13 := s12.trans s3
        dsimp only
        refine st_tail (fun σ H' => ∃ (z : V) (e : PyData), σ = [some (.ref a), some x1, some x2, some x3, some x4, some x5, some z] ∧ Same H H' ∧ Dp K H' z e ∧
          codF low high steps moves fade = (if isN e = true then (if fadeD fade = true then .none else .tuple [.str "fade", .none]) else e)) ?_ fun tail => ?_
        · rintro σ H4 ⟨z, e, rfl, s4, hz, he⟩
          refine ⟨_, rfl, rfl, _, rfl, ?_⟩
          show if decide (z = V.non) = true then _ else _
          rw [dp_isN hz]
          cases hn : isN e with
          | false =>
            refine iteF ?_
            refine iteF ?_
            refine ⟨_, rfl, q' _ _ _ s4 ?_ hz⟩
            rw [he, hn]
            rfl
          | true =>
            refine iteT ?_
            refine ⟨_, rfl, x5, fade, rfl, dp_same s4 _ _ d5, fun H5 s5 => ⟨_, rfl, ?_⟩⟩
            cases hf : fadeD fade with
            | true =>
              refine iteF ?_
              have en : e = .none := by
                cases e with
                | none => rfl
                | _ => cases hn
              refine ⟨_, rfl, q' _ _ _ (s4.trans s5) ?_ (dp_same s5 _ _ hz)⟩
              rw [he, hn, hf, en]
              rfl
            | false =>
              refine iteT ?_
              refine ⟨by decide, fun p hp => ⟨_, rfl, q' _ _ _ ((s4.trans s5).trans (same_new hp)) ?_ (.tup upd_tup (.cons (.str "fade") (.cons .non .nil)))⟩⟩
              rw [he, hn, hf]
              rfl
        refine ⟨_, rfl, rfl, _, rfl, ?_⟩
        show if decide (z1 = V.non) = true then _ else _
        rw [dp_isN hz1]
        have hC : codF low high steps moves fade = (match stepsF steps with
          | .none => (match movesF moves with
            | .none => if fadeD fade = true then .none else .tuple [.str "fade", .none]
            | e => e)
          | e => e) := by
          unfold codF
          rw [b1, b2]
          rfl
        cases hn : isN (stepsF steps) with
        | false =>
          refine iteF ?_
          refine tail _ _ ⟨z1, stepsF steps, rfl, s13, hz1, ?_⟩
          rw [hC, hn]
          cases e : stepsF steps with
          | none => rw [e] at hn; cases hn
          | _ => rfl
        | true =>
          refine iteT ?_
          refine ⟨_, rfl, x4, moves, rfl, dp_same s13 _ _ d4, fun z2 H4 s4 hz2 => ?_⟩
          refine tail _ _ ⟨z2, movesF moves, rfl, s13.trans s4, hz2, ?_⟩
          rw [hC]
          have en : stepsF steps = .none := by
            cases e : stepsF steps with
            | none => rfl
            | _ => rw [e] at hn; cases hn
          rw [en]
          cases movesF moves <;> rfl
      · have e5 : decide (V.int (xs.length : Int) = V.int 5) = false := by
          rw [hl]
          refine decide_eq_false fun z => h5 ?_
          have := V.int.inj z
          omega
        rw [e5]
        refine iteT ?_
        exact bad (fun a b c e f z => by cases z; exact h5 rfl) H (Same.refl H)
end
end My

/-! the program's own errors: made, raised, caught, told -/
namespace My
open PySem PySem.Spec PyProof.Rows L2
theorem made1 {H : Hp} {a d : Addr} {o1 o2 o3 o5 : HO} (h : H a = none) (n : d ≠ a) : upd (del (upd (upd (upd H a o1) d o2) a o3) a) d o5 = upd H d o5 := by
  funext b
  show (if b = d then some o5 else if b = a then none else if b = a then some o3 else if b = d then some o2 else if b = a then some o1 else H b) = if b = d then some o5 else H b
  by_cases e : b = d
  · rw [if_pos e, if_pos e]
  · simp only [if_neg e]
    by_cases e2 : b = a
    · simp only [if_pos e2]
      rw [e2, h]
    · simp only [if_neg e2]
theorem made2 {H : Hp} {a d : Addr} {o1 o2 o3 o4 o5 : HO} (h : H a = none) (n : d ≠ a) : upd (del (upd (upd (upd (upd H a o1) d o2) a o3) d o4) a) d o5 = upd H d o5 := by
  funext b
  show (if b = d then some o5 else if b = a then none else if b = d then some o4 else if b = a then some o3 else if b = d then some o2 else if b = a then some o1 else H b) = if b = d then some o5 else H b
  by_cases e : b = d
  · rw [if_pos e, if_pos e]
  · rw [if_neg e, if_neg e]
    by_cases e2 : b = a
    · rw [if_pos e2, e2, h, if_neg (fun z => e (e2.trans z))]
    · rw [if_neg e2, if_neg e, if_neg e2, if_neg e, if_neg e2]
/-- refusals: without fields; with one; with two -/
def NilE (C : Addr) (H : Hp) (E : XK) : Prop := ∀ H', Same H H' → E (.ref C) none H'
theorem NilE.same {C : Addr} {H H' : Hp} {E : XK} (s : Same H H') (h : NilE C H E) : NilE C H' E := fun H'' s' => h H'' (s.trans s')
def OneE (C : Addr) (f : Str) (H : Hp) (E : XK) (x : V) : Prop := ∀ d H', Same H H' → H' d = some (.xd [(f, x)]) → E (.ref C) (some d) H'
theorem OneE.same {C : Addr} {f : Str} {H H' : Hp} {E : XK} {x : V} (s : Same H H') (h : OneE C f H E x) : OneE C f H' E x := fun d H'' s' hd => h d H'' (s.trans s') hd
theorem oneE_mk {C : Addr} {f : Str} {H : Hp} {E : XK} {x : V} (h : OneE C f H E x) {a d : Addr} {o1 o2 o3 : HO} (ha : H a = none) (hd : upd H a o1 d = none) (n : d ≠ a) :
    E (.ref C) (some d) (upd (del (upd (upd (upd H a o1) d o2) a o3) a) d (.xd [(f, x)])) := by
  rw [made1 ha n]
  have h0 : H d = none := (upd_ne n).symm.trans hd
  exact h d _ (same_new h0) upd_same
def TwoE (C : Addr) (f g : Str) (H : Hp) (E : XK) (x y : V) : Prop := ∀ d H', Same H H' → H' d = some (.xd [(g, y), (f, x)]) → E (.ref C) (some d) H'
theorem TwoE.same {C : Addr} {f g : Str} {H H' : Hp} {E : XK} {x y : V} (s : Same H H') (h : TwoE C f g H E x y) : TwoE C f g H' E x y := fun d H'' s' hd => h d H'' (s.trans s') hd
theorem twoE_mk {C : Addr} {f g : Str} {H : Hp} {E : XK} {x y : V} (h : TwoE C f g H E x y) {a d : Addr} {o1 o2 o3 o4 : HO} (ha : H a = none) (hd : upd H a o1 d = none) (n : d ≠ a) :
    E (.ref C) (some d) (upd (del (upd (upd (upd (upd H a o1) d o2) a o3) d o4) a) d (.xd [(g, y), (f, x)])) := by
  rw [made2 ha n]
  have h0 : H d = none := (upd_ne n).symm.trans hd
  exact h d _ (same_new h0) upd_same
def sp_init0 (K : PySem.W.Frag) (C : Addr) : Sp := fun vs H Q _ => ∃ (a : Addr) (t : Str), vs = [.ref a, .str t] ∧ H a = some (exo a C none) ∧ Q .non H
def sp_init1 (C : Addr) (f : Str) : Sp := fun vs H Q _ => ∃ (a : Addr) (x : V), vs = [.ref a, x] ∧ H a = some (exo a C none) ∧
  ∀ dx, H dx = none → dx ≠ a → Q .non (upd (upd H dx (exd dx [(f, x)])) a (exo a C (some dx)))
def sp_init2 (C : Addr) (f1 f2 : Str) : Sp := fun vs H Q _ => ∃ (a : Addr) (x y : V), vs = [.ref a, x, y] ∧ H a = some (exo a C none) ∧
  ∀ dx, H dx = none → dx ≠ a → Q .non (upd (upd (upd H dx (exd dx [(f1, x)])) a (exo a C (some dx))) dx (exd dx [(f2, y), (f1, x)]))
section
variable {P : Program} {w : World} {K : PySem.W.Frag} {mg : Str → Option Value} {base : Heap}
theorem oki_OutOfPlace (T : Txt K mg) : FnOk P w K mg base CX0 2 T.fi_OutOfPlace T.di_OutOfPlace ["self", "text"] (sp_init0 K T.C_OutOfPlace) := by
  refine T.Fi_OutOfPlace.ok sci_OutOfPlace (fun vs H Q E h => ?_) (fun cdv A outer s H vs Q E hr h => ?_)
  · obtain ⟨a, t, rfl, _⟩ := h
    rfl
  · obtain ⟨a, t, rfl, ha, q⟩ := h
    refine ⟨_, pss_one (ps_expr (pe_veinit (by rfl) T.zV T.vV (pa_cons (pv 0) (pa_cons (pv 1) pa_nil)))), ?_⟩
    exact ⟨_, rfl, _, rfl, a, T.C_OutOfPlace, [.str t], rfl, by show 1 ≤ 1000; decide, T.o_OutOfPlace, ha, q⟩
theorem oki_NoSeam (T : Txt K mg) : FnOk P w K mg base CX0 2 T.fi_NoSeam T.di_NoSeam ["self", "text"] (sp_init0 K T.C_NoSeam) := by
  refine T.Fi_NoSeam.ok sci_NoSeam (fun vs H Q E h => ?_) (fun cdv A outer s H vs Q E hr h => ?_)
  · obtain ⟨a, t, rfl, _⟩ := h
    rfl
  · obtain ⟨a, t, rfl, ha, q⟩ := h
    refine ⟨_, pss_one (ps_expr (pe_veinit (by rfl) T.zV T.vV (pa_cons (pv 0) (pa_cons (pv 1) pa_nil)))), ?_⟩
    exact ⟨_, rfl, _, rfl, a, T.C_NoSeam, [.str t], rfl, by show 1 ≤ 1000; decide, T.o_NoSeam, ha, q⟩
theorem oki_BadCoder (T : Txt K mg) : FnOk P w K mg base CX0 2 T.fi_BadCoder T.di_BadCoder ["self", "part", "number"] (sp_init2 T.C_BadCoder "part" "number") := by
  refine T.Fi_BadCoder.ok sci_BadCoder (fun vs H Q E h => ?_) (fun cdv A outer s H vs Q E hr h => ?_)
  · obtain ⟨a, x, y, rfl, _⟩ := h
    rfl
  · obtain ⟨a, x, y, rfl, ha, q⟩ := h
    refine ⟨_, pss_cons (ps_ost (pv 0) (pv 1)) (pss_one (ps_ost (pv 0) (pv 2))), ?_⟩
    refine ⟨_, rfl, _, rfl, a, T.C_BadCoder, rfl, T.o_BadCoder, T.n_BadCoder_part, .inl ⟨ha, fun dx hdx ne => ?_⟩⟩
    refine ⟨_, rfl, _, rfl, a, T.C_BadCoder, rfl, T.o_BadCoder, T.n_BadCoder_number, .inr ⟨dx, _, upd_same, (upd_ne ne).trans upd_same, by show 1 ≤ 900; decide, q dx hdx ne⟩⟩
theorem oki_BadRow (T : Txt K mg) : FnOk P w K mg base CX0 2 T.fi_BadRow T.di_BadRow ["self", "row", "word"] (sp_init2 T.C_BadRow "row" "word") := by
  refine T.Fi_BadRow.ok sci_BadRow (fun vs H Q E h => ?_) (fun cdv A outer s H vs Q E hr h => ?_)
  · obtain ⟨a, x, y, rfl, _⟩ := h
    rfl
  · obtain ⟨a, x, y, rfl, ha, q⟩ := h
    refine ⟨_, pss_cons (ps_ost (pv 0) (pv 1)) (pss_one (ps_ost (pv 0) (pv 2))), ?_⟩
    refine ⟨_, rfl, _, rfl, a, T.C_BadRow, rfl, T.o_BadRow, T.n_BadRow_row, .inl ⟨ha, fun dx hdx ne => ?_⟩⟩
    refine ⟨_, rfl, _, rfl, a, T.C_BadRow, rfl, T.o_BadRow, T.n_BadRow_word, .inr ⟨dx, _, upd_same, (upd_ne ne).trans upd_same, by show 1 ≤ 900; decide, q dx hdx ne⟩⟩
theorem oki_TooGreat (T : Txt K mg) : FnOk P w K mg base CX0 2 T.fi_TooGreat T.di_TooGreat ["self", "most"] (sp_init1 T.C_TooGreat "most") := by
  refine T.Fi_TooGreat.ok sci_TooGreat (fun vs H Q E h => ?_) (fun cdv A outer s H vs Q E hr h => ?_)
  · obtain ⟨a, x, rfl, _⟩ := h
    rfl
  · obtain ⟨a, x, rfl, ha, q⟩ := h
    refine ⟨_, pss_one (ps_put (pv 0) (pv 1)), ?_⟩
    exact ⟨_, rfl, _, rfl, a, T.C_TooGreat, rfl, T.o_TooGreat, T.n_TooGreat_most, ha, q⟩
end
end My

namespace My
open PySem PySem.Spec PyProof.Rows L2
/-! ### coders, states, the move of a code: the mathematics -/
structure Cod where
  low : Int
  high : Int
  steps : List Int
  moves : List (Int × Int)
  fade : Int
def pairI (p : Int × Int) : PyData := .tuple [.int p.1, .int p.2]
def Cod.dat (C : Cod) : PyData := .tuple [.int C.low, .int C.high, .tuple (C.steps.map .int), .tuple (C.moves.map pairI), .int C.fade]
structure Cod.Ok (C : Cod) : Prop where
  l1 : -32768 ≤ C.low
  l2 : C.low ≤ 0
  h1 : 0 ≤ C.high
  h2 : C.high ≤ 32767
  s1 : 1 ≤ C.steps.length
  s2 : C.steps.length ≤ 16
  s3 : ∀ s ∈ C.steps, 1 ≤ s ∧ s ≤ 9999
  m1 : 2 ≤ C.moves.length
  m2 : C.moves.length ≤ 16
  m3 : ∀ p ∈ C.moves, (-32 ≤ p.1 ∧ p.1 ≤ 32) ∧ (-15 ≤ p.2 ∧ p.2 ≤ 15)
  f1 : C.fade = 0 ∨ (2 ≤ C.fade ∧ C.fade ≤ 99)
def rnd (n d : Int) : Int := if n < 0 then -((-n).fdiv d) else n.fdiv d
def lim (n lo hi : Int) : Int := if n < lo then lo else if hi < n then hi else n
def fdd (l f : Int) : Int := if f = 0 then l else l - rnd l f
def Cod.chg (C : Cod) (k p : Nat) : Int := rnd ((C.moves.getD k (0, 0)).1 * C.steps.getD p 0) 8
def Cod.led (C : Cod) (s : Int × Int) (k : Nat) : Int × Int :=
  (lim (fdd s.1 C.fade + C.chg k s.2.toNat) C.low C.high, lim (s.2 + (C.moves.getD k (0, 0)).2) 0 ((C.steps.length : Int) - 1))
def Cod.St (C : Cod) (s : Int × Int) : Prop := C.low ≤ s.1 ∧ s.1 ≤ C.high ∧ 0 ≤ s.2 ∧ s.2 < C.steps.length
theorem lim_in {n lo hi : Int} (h : lo ≤ hi) : lo ≤ lim n lo hi ∧ lim n lo hi ≤ hi := by
  unfold lim
  split
  · omega
  · split <;> omega
theorem Cod.led_St {C : Cod} (O : C.Ok) (s : Int × Int) (k : Nat) : C.St (C.led s k) := by
  have h1 := lim_in (n := fdd s.1 C.fade + C.chg k s.2.toNat) (lo := C.low) (hi := C.high) (by have := O.l2; have := O.h1; omega)
  have h2 := lim_in (n := s.2 + (C.moves.getD k (0, 0)).2) (lo := 0) (hi := (C.steps.length : Int) - 1) (by have := O.s1; omega)
  exact ⟨h1.1, h1.2, h2.1, by show lim _ _ _ < _; omega⟩
theorem badAt_none {p : PyData → Bool} : ∀ {ds : List PyData} {i : Nat}, (∀ d ∈ ds, p d = true) → badAt p i ds = none
  | [], _, _ => rfl
  | d :: r, i, h => by
    show (if p d = true then badAt p (i + 1) r else some i) = none
    rw [if_pos (h d List.mem_cons_self)]
    exact badAt_none fun e he => h e (List.mem_cons_of_mem _ he)
theorem btw_in {n lo hi : Int} (h1 : lo ≤ n) (h2 : n ≤ hi) : btw (.int n) lo hi = true := by
  show (decide _ && decide _) = true
  rw [decide_eq_true h1, decide_eq_true h2]
  rfl
theorem tup_in {ds : List PyData} {lo hi : Int} (h1 : lo ≤ (ds.length : Int)) (h2 : (ds.length : Int) ≤ hi) : tupD (.tuple ds) lo hi = true := by
  show (decide _ && decide _) = true
  rw [decide_eq_true h1, decide_eq_true h2]
  rfl
theorem Cod.Ok.first {C : Cod} (O : C.Ok) : firstF C.dat = .none := by
  have e1 : stepsF (.tuple (C.steps.map .int)) = .none := by
    show (if _ then _ else _) = _
    rw [if_pos (tup_in (by rw [List.length_map]; have := O.s1; omega) (by rw [List.length_map]; have := O.s2; omega)), badAt_none]
    · rfl
    · intro d hd
      obtain ⟨s, hs, rfl⟩ := List.mem_map.mp hd
      exact btw_in (O.s3 s hs).1 (O.s3 s hs).2
  have e2 : movesF (.tuple (C.moves.map pairI)) = .none := by
    show (if _ then _ else _) = _
    rw [if_pos (tup_in (by rw [List.length_map]; have := O.m1; omega) (by rw [List.length_map]; have := O.m2; omega)), badAt_none]
    · rfl
    · intro d hd
      obtain ⟨p, hp, rfl⟩ := List.mem_map.mp hd
      obtain ⟨⟨a1, a2⟩, b1, b2⟩ := O.m3 p hp
      show (btw (.int p.1) (-32) 32 && btw (.int p.2) (-15) 15) = true
      rw [btw_in a1 a2, btw_in b1 b2]
      rfl
  have e3 : fadeD (.int C.fade) = true := by
    unfold fadeD
    rcases O.f1 with h | ⟨h1, h2⟩
    · rw [btw_in (by omega) (by omega)]
      rfl
    · rw [btw_in h1 h2, Bool.or_true]
  show codF (.int C.low) (.int C.high) (.tuple (C.steps.map .int)) (.tuple (C.moves.map pairI)) (.int C.fade) = .none
  unfold codF
  rw [if_pos (btw_in O.l1 O.l2), if_pos (btw_in O.h1 O.h2), e1, e2, if_pos e3]
theorem dpAll_ints {K : PySem.W.Frag} {H : Hp} : ∀ {ns : List Int} {xs : List V}, DpAll K H xs (ns.map .int) → xs = ns.map V.int
  | [], _, h => by cases h; rfl
  | n :: r, _, h => by
    cases h with
    | cons a b =>
      cases a
      rw [dpAll_ints b]
      rfl
theorem dp_int {K : PySem.W.Frag} {H : Hp} {v : V} {n : Int} (h : Dp K H v (.int n)) : v = .int n := by
  cases h
  rfl
theorem dpAll2 {K : PySem.W.Frag} {H : Hp} {xs : List V} {a b : PyData} (h : DpAll K H xs [a, b]) : ∃ x1 x2, xs = [x1, x2] ∧ Dp K H x1 a ∧ Dp K H x2 b := by
  cases h with
  | cons h1 h => cases h with
    | cons h2 h => cases h with
      | nil => exact ⟨_, _, rfl, h1, h2⟩
theorem dp_pair {K : PySem.W.Frag} {H : Hp} {v : V} {p : Int × Int} (h : Dp K H v (pairI p)) : ∃ a, v = .ref a ∧ SqT K H a [.int p.1, .int p.2] := by
  obtain ⟨a, xs, rfl, ha, hd⟩ := dp_tup h
  obtain ⟨x1, x2, rfl, h1, h2⟩ := dpAll2 hd
  rw [dp_int h1, dp_int h2] at ha
  exact ⟨a, rfl, ha⟩
/-- a coder's parts -/
theorem cod_at {K : PySem.W.Frag} {H : Hp} {c : V} {C : Cod} (h : Dp K H c C.dat) : ∃ (a s m : Addr) (ms : List V), c = .ref a ∧ SqT K H a [.int C.low, .int C.high, .ref s, .ref m, .int C.fade] ∧
    SqT K H s (C.steps.map V.int) ∧ SqT K H m ms ∧ DpAll K H ms (C.moves.map pairI) := by
  obtain ⟨a, xs, rfl, ha, hd⟩ := dp_tup h
  obtain ⟨x1, x2, x3, x4, x5, rfl, h1, h2, h3, h4, h5⟩ := dpAll5 hd
  obtain ⟨s, ys, rfl, hs, hsd⟩ := dp_tup h3
  obtain ⟨m, ms, rfl, hm, hmd⟩ := dp_tup h4
  rw [dp_int h1, dp_int h2, dp_int h5] at ha
  rw [dpAll_ints hsd] at hs
  exact ⟨a, s, m, ms, rfl, ha, hs, hm, hmd⟩
theorem move_at {K : PySem.W.Frag} {H : Hp} {C : Cod} {ms : List V} (h : DpAll K H ms (C.moves.map pairI)) {k : Nat} (hk : k < C.moves.length) :
    ∃ q, ms[k]? = some (.ref q) ∧ SqT K H q [.int (C.moves.getD k (0, 0)).1, .int (C.moves.getD k (0, 0)).2] := by
  have e : (C.moves.map pairI)[k]? = some (pairI (C.moves.getD k (0, 0))) := by
    rw [List.getElem?_map, List.getElem?_eq_getElem hk, List.getD_eq_getElem?_getD, List.getElem?_eq_getElem hk]
    rfl
  obtain ⟨x, hx, hd⟩ := dpAll_get' h e
  obtain ⟨q, rfl, hq⟩ := dp_pair hd
  exact ⟨q, hx, hq⟩
theorem step_at {C : Cod} {p : Nat} (hp : p < C.steps.length) : (C.steps.map V.int)[p]? = some (.int (C.steps.getD p 0)) := by
  rw [List.getElem?_map, List.getElem?_eq_getElem hp, List.getD_eq_getElem?_getD, List.getElem?_eq_getElem hp]
  rfl
theorem btw_out {d : PyData} {lo hi : Int} (h : btw d lo hi = true) : ∃ n, d = .int n ∧ lo ≤ n ∧ n ≤ hi := by
  cases d with
  | int n =>
    obtain ⟨a, b⟩ := Bool.and_eq_true_iff.mp (show (decide (lo ≤ n) && decide (n ≤ hi)) = true from h)
    exact ⟨n, rfl, of_decide_eq_true a, of_decide_eq_true b⟩
  | _ => cases h
theorem badAt_all {p : PyData → Bool} : ∀ {ds : List PyData} {i : Nat}, badAt p i ds = none → ∀ d ∈ ds, p d = true
  | [], _, _, _, hd => by cases hd
  | d :: r, i, h, e, he => by
    have h : (if p d = true then badAt p (i + 1) r else some i) = none := h
    by_cases q : p d = true
    · rw [if_pos q] at h
      rcases List.mem_cons.mp he with z | z
      · rw [z]; exact q
      · exact badAt_all h e z
    · rw [if_neg q] at h
      cases h
theorem badAt_lt {p : PyData → Bool} : ∀ {ds : List PyData} {i k : Nat}, badAt p i ds = some k → k < i + ds.length
  | [], _, _, h => by cases h
  | d :: r, i, k, h => by
    have h : (if p d = true then badAt p (i + 1) r else some i) = some k := h
    rw [List.length_cons]
    by_cases e : p d = true
    · rw [if_pos e] at h
      have := badAt_lt h
      omega
    · rw [if_neg e] at h
      cases h
      omega
/-- a fault's form: nothing, or a short word and nothing or a small number -/
def Flt (e : PyData) : Prop := e = .none ∨ ∃ s : Str, s ∈ (["form", "low", "high", "steps", "moves", "fade"] : List Str) ∧ (e = .tuple [.str s, .none] ∨ ∃ k : Nat, k ≤ 16 ∧ e = .tuple [.str s, .int (k : Int)])
theorem rowF_flt {s : Str} {lo hi : Int} {p : PyData → Bool} (hs : s ∈ (["form", "low", "high", "steps", "moves", "fade"] : List Str)) (hh : hi ≤ 16) (d : PyData) : Flt (rowF s lo hi p d) := by
  cases d with
  | tuple ds =>
    show Flt (if tupD (.tuple ds) lo hi = true then faultD s (badAt p 0 ds) else .tuple [.str s, .none])
    by_cases h : tupD (.tuple ds) lo hi = true
    · rw [if_pos h]
      cases e : badAt p 0 ds with
      | none => exact .inl rfl
      | some k =>
        have h1 := badAt_lt e
        have h2 := of_decide_eq_true (Bool.and_eq_true_iff.mp (show (decide (lo ≤ (ds.length : Int)) && decide ((ds.length : Int) ≤ hi)) = true from h)).2
        exact .inr ⟨s, hs, .inr ⟨k, by omega, rfl⟩⟩
    · rw [if_neg h]
      exact .inr ⟨s, hs, .inl rfl⟩
  | _ => exact .inr ⟨s, hs, .inl rfl⟩
theorem stepsF_flt (d : PyData) : Flt (stepsF d) := rowF_flt (by decide +kernel) (by decide) d
theorem movesF_flt (d : PyData) : Flt (movesF d) := rowF_flt (by decide +kernel) (by decide) d
theorem codF_flt (a b c d e : PyData) : Flt (codF a b c d e) := by
  unfold codF
  by_cases h1 : btw a (-32768) 0 = true
  · rw [if_pos h1]
    by_cases h2 : btw b 0 32767 = true
    · rw [if_pos h2]
      rcases stepsF_flt c with z | ⟨s, hs, z | ⟨k, hk, z⟩⟩
      · rw [z]
        rcases movesF_flt d with y | ⟨s, hs, y | ⟨k, hk, y⟩⟩
        · rw [y]
          dsimp only
          by_cases h3 : fadeD e = true
          · rw [if_pos h3]; exact .inl rfl
          · rw [if_neg h3]; exact .inr ⟨"fade", by decide +kernel, .inl rfl⟩
        · rw [y]; exact .inr ⟨s, hs, .inl rfl⟩
        · rw [y]; exact .inr ⟨s, hs, .inr ⟨k, hk, rfl⟩⟩
      · rw [z]; exact .inr ⟨s, hs, .inl rfl⟩
      · rw [z]; exact .inr ⟨s, hs, .inr ⟨k, hk, rfl⟩⟩
    · rw [if_neg h2]; exact .inr ⟨"high", by decide +kernel, .inl rfl⟩
  · rw [if_neg h1]; exact .inr ⟨"low", by decide +kernel, .inl rfl⟩
theorem firstF_flt (d : PyData) : Flt (firstF d) := by
  unfold firstF
  split
  · exact codF_flt ..
  · exact .inr ⟨"form", by decide +kernel, .inl rfl⟩
theorem rowF_none {s : Str} {lo hi : Int} {p : PyData → Bool} {d : PyData} (h : rowF s lo hi p d = .none) : ∃ ds, d = .tuple ds ∧ lo ≤ (ds.length : Int) ∧ (ds.length : Int) ≤ hi ∧ ∀ e ∈ ds, p e = true := by
  cases d with
  | tuple ds =>
    have h : (if tupD (.tuple ds) lo hi = true then faultD s (badAt p 0 ds) else .tuple [.str s, .none]) = .none := h
    by_cases q : tupD (.tuple ds) lo hi = true
    · rw [if_pos q] at h
      obtain ⟨a, b⟩ := Bool.and_eq_true_iff.mp (show (decide (lo ≤ (ds.length : Int)) && decide ((ds.length : Int) ≤ hi)) = true from q)
      cases e : badAt p 0 ds with
      | none => exact ⟨ds, rfl, of_decide_eq_true a, of_decide_eq_true b, badAt_all e⟩
      | some k => rw [e] at h; cases h
    · rw [if_neg q] at h
      cases h
  | _ => cases h
theorem ints_of {lo hi : Int} : ∀ {ds : List PyData}, (∀ e ∈ ds, btw e lo hi = true) → ∃ ns : List Int, ds = ns.map .int ∧ ∀ n ∈ ns, lo ≤ n ∧ n ≤ hi
  | [], _ => ⟨[], rfl, fun _ h => by cases h⟩
  | d :: r, h => by
    obtain ⟨n, rfl, h1, h2⟩ := btw_out (h d List.mem_cons_self)
    obtain ⟨ns, rfl, hn⟩ := ints_of fun e he => h e (List.mem_cons_of_mem _ he)
    refine ⟨n :: ns, rfl, fun k hk => ?_⟩
    rcases List.mem_cons.mp hk with z | z
    · rw [z]; exact ⟨h1, h2⟩
    · exact hn k z
theorem pairs_of : ∀ {ds : List PyData}, (∀ e ∈ ds, moveD e = true) → ∃ ps : List (Int × Int), ds = ps.map pairI ∧ ∀ p ∈ ps, (-32 ≤ p.1 ∧ p.1 ≤ 32) ∧ (-15 ≤ p.2 ∧ p.2 ≤ 15)
  | [], _ => ⟨[], rfl, fun _ h => by cases h⟩
  | d :: r, h => by
    obtain ⟨ps, rfl, hn⟩ := pairs_of fun e he => h e (List.mem_cons_of_mem _ he)
    have hd := h d List.mem_cons_self
    obtain ⟨a, b, rfl, h1, h2⟩ : ∃ a b, d = .tuple [a, b] ∧ btw a (-32) 32 = true ∧ btw b (-15) 15 = true := by
      unfold moveD at hd
      split at hd
      · exact ⟨_, _, rfl, Bool.and_eq_true_iff.mp hd⟩
      · cases hd
    obtain ⟨x, rfl, x1, x2⟩ := btw_out h1
    obtain ⟨y, rfl, y1, y2⟩ := btw_out h2
    refine ⟨(x, y) :: ps, rfl, fun k hk => ?_⟩
    rcases List.mem_cons.mp hk with z | z
    · rw [z]; exact ⟨⟨x1, x2⟩, y1, y2⟩
    · exact hn k z
/-- what has no fault is a coder -/
theorem firstF_cod {d : PyData} (h : firstF d = .none) : ∃ C : Cod, C.Ok ∧ d = C.dat := by
  unfold firstF at h
  split at h
  · rename_i a b c e f
    unfold codF at h
    by_cases h1 : btw a (-32768) 0 = true
    · rw [if_pos h1] at h
      by_cases h2 : btw b 0 32767 = true
      · rw [if_pos h2] at h
        cases hs : stepsF c with
        | none =>
          rw [hs] at h
          dsimp only at h
          cases hm : movesF e with
          | none =>
            rw [hm] at h
            dsimp only at h
            by_cases h3 : fadeD f = true
            · obtain ⟨low, rfl, a1, a2⟩ := btw_out h1
              obtain ⟨high, rfl, b1, b2⟩ := btw_out h2
              obtain ⟨ds, rfl, d1, d2, d3⟩ := rowF_none hs
              obtain ⟨ns, rfl, hn⟩ := ints_of d3
              obtain ⟨es, rfl, e1, e2, e3⟩ := rowF_none hm
              obtain ⟨ps, rfl, hp⟩ := pairs_of e3
              rw [List.length_map] at d1 d2 e1 e2
              obtain ⟨n, rfl, f1⟩ : ∃ n, f = .int n ∧ (n = 0 ∨ (2 ≤ n ∧ n ≤ 99)) := by
                unfold fadeD at h3
                rcases Bool.or_eq_true_iff.mp h3 with z | z
                · obtain ⟨n, rfl, z1, z2⟩ := btw_out z
                  exact ⟨n, rfl, .inl (by omega)⟩
                · obtain ⟨n, rfl, z1, z2⟩ := btw_out z
                  exact ⟨n, rfl, .inr ⟨z1, z2⟩⟩
              exact ⟨⟨low, high, ns, ps, n⟩, ⟨a1, a2, b1, b2, by show 1 ≤ ns.length; omega, by show ns.length ≤ 16; omega, hn, by show 2 ≤ ps.length; omega, by show ps.length ≤ 16; omega, hp, f1⟩, rfl⟩
            · rw [if_neg h3] at h
              cases h
          | _ => rw [hm] at h; cases h
        | _ => rw [hs] at h; cases h
      · rw [if_neg h2] at h
        cases h
    · rw [if_neg h1] at h
      cases h
  · cases h
section
variable {P : Program} {w : World} {K : PySem.W.Frag} {mg : Str → Option Value} {base : Heap}
/-- the two fields of a fault -/
inductive FltV : PyData → V → V → Prop
  | non (s : Str) : FltV (.tuple [.str s, .none]) (.str s) .non
  | int (s : Str) (k : Int) : FltV (.tuple [.str s, .int k]) (.str s) (.int k)
def sp_need_coder (K : PySem.W.Frag) (B : Addr) : Sp := fun vs H Q E => ∃ (x : V) (d : PyData), vs = [x] ∧ Dp K H x d ∧ (firstF d = .none → ∀ H', Same H H' → Q x H') ∧
  (∀ y z, FltV (firstF d) y z → TwoE B "part" "number" H E y z)
theorem ok_need_coder (T : Txt K mg) : FnOk P w K mg base (L2.CX P w) 6 T.f_need_coder T.d_need_coder ["thing"] (sp_need_coder K T.C_BadCoder) := by
  refine T.F_need_coder.okX sc_need_coder (fun vs H Q E h => ?_) (fun cdv A outer s H vs Q E hr h => ?_)
  · obtain ⟨x, d, rfl, _⟩ := h
    rfl
  · obtain ⟨x, d, rfl, hd, q1, q2⟩ := h
    refine ⟨_,
(pss_cons (ps_set (i := 1) sc_need_coder.nd rfl (Or.inl rfl) (pe_call (ok_first_fault T) (hr.mono (by decide)) (by rfl) T.g__first_fault T.F__first_fault.kp T.b__first_fault .nil pass0 (pa_cons (pv 0) pa_nil)))
      (pss_cons (ps_if (pt_cmpR op_notN (pv 1) pe_non (nomark _)) (pss_one (ps_raise rfl (takes_of rfl rfl rfl rfl) (pmk_oex T.o_BadCoder T.i_BadCoder T.t_BadCoder (oki_BadCoder T) (hr.mono (by decide)) T.bi_BadCoder .nil pass0 (by rfl) T.g_BadCoder (pa_cons (pe_ix ix_tup (pv 1) pe_int (fun _ _ => rfl)) (pa_cons (pe_ix ix_tup (pv 1) pe_int (fun _ _ => rfl)) pa_nil))))) pss_nil)
      (pss_one (ps_ret (pv 0)))))
, ?_⟩
    refine ⟨x, rfl, x, d, rfl, hd, fun z H1 s1 hz => ?_⟩
    refine ⟨_, rfl, rfl, _, rfl, ?_⟩
    show if (!decide (z = V.non)) = true then _ else _
    rw [dp_isN hz]
    rcases firstF_flt d with e | ⟨s, _, e | ⟨k, _, e⟩⟩
    · rw [e]
      refine iteF ?_
      exact ⟨x, rfl, q1 e H1 s1⟩
    · rw [e] at hz q2 ⊢
      refine iteT ?_
      obtain ⟨a, xs, rfl, ha, hds⟩ := dp_tup hz
      obtain ⟨x1, x2, rfl, h1, h2⟩ := dpAll2 hds
      cases h1
      cases h2
      exact ⟨_, rfl, a, _, 0, _, rfl, rfl, ha, atI_nat (j := 0) rfl, _, rfl, a, _, 1, _, rfl, rfl, ha, atI_nat (j := 1) rfl, by show 2 ≤ 1000; decide, fun b hb => ⟨b, _, _, rfl, upd_same, fun dd hd n =>
        ⟨rfl, dd, _, (upd_ne n.symm).trans upd_same, upd_same, (upd_ne n).symm.trans hd, twoE_mk ((q2 _ _ (.non s)).same s1) hb hd n⟩⟩⟩
    · rw [e] at hz q2 ⊢
      refine iteT ?_
      obtain ⟨a, xs, rfl, ha, hds⟩ := dp_tup hz
      obtain ⟨x1, x2, rfl, h1, h2⟩ := dpAll2 hds
      cases h1
      cases h2
      exact ⟨_, rfl, a, _, 0, _, rfl, rfl, ha, atI_nat (j := 0) rfl, _, rfl, a, _, 1, _, rfl, rfl, ha, atI_nat (j := 1) rfl, by show 2 ≤ 1000; decide, fun b hb => ⟨b, _, _, rfl, upd_same, fun dd hd n =>
        ⟨rfl, dd, _, (upd_ne n.symm).trans upd_same, upd_same, (upd_ne n).symm.trans hd, twoE_mk ((q2 _ _ (.int s _)).same s1) hb hd n⟩⟩⟩
def sp_is_code (K : PySem.W.Frag) : Sp := fun vs H Q _ => ∃ (c x : V) (C : Cod) (d : PyData), vs = [c, x] ∧ Dp K H c C.dat ∧ Dp K H x d ∧ ∀ H', Same H H' → Q (.bl (btw d 0 ((C.moves.length : Int) - 1))) H'
theorem ok_is_code (T : Txt K mg) : FnOk P w K mg base CX0 3 T.f_is_code T.d_is_code ["coder", "thing"] (sp_is_code K) := by
  refine T.F_is_code.ok sc_is_code (fun vs H Q E h => ?_) (fun cdv A outer s H vs Q E hr h => ?_)
  · obtain ⟨c, x, C, d, rfl, _⟩ := h
    rfl
  · obtain ⟨c, x, C, d, rfl, hc, hd, q⟩ := h
    obtain ⟨a, s, m, ms, rfl, ha, hs, hm, hmd⟩ := cod_at hc
    refine ⟨_,
(pss_one (ps_ret (pe_call (ok_is_between T) (hr.mono (by decide)) (by rfl) T.g_is_between T.F_is_between.kp T.b_is_between .nil pass0 (pa_cons (pv 1) (pa_cons pe_int (pa_cons (pe_op op_sub (pe_callB (call_len_seq) (by rfl) T.z_len (by decide +kernel) (pa_cons (pe_ix ix_tup (pv 0) pe_int (fun _ _ => rfl)) pa_nil)) pe_int) pa_nil))))))
, ?_⟩
    refine ⟨x, rfl, _, rfl, a, _, 3, .ref m, rfl, rfl, ha, atI_nat (j := 3) rfl, m, ms, rfl, .inr hm, _, _, rfl, rfl, ?_⟩
    have e : (ms.length : Int) - 1 = (C.moves.length : Int) - 1 := by rw [dpAll_len hmd, List.length_map]
    refine ⟨x, d, 0, _, rfl, hd, fun H1 s1 => ?_⟩
    show Q (.bl (btw d 0 ((ms.length : Int) - 1))) H1
    rw [e]
    exact q H1 s1
def sp_is_place (K : PySem.W.Frag) : Sp := fun vs H Q _ => ∃ (c x : V) (C : Cod) (d : PyData), vs = [c, x] ∧ Dp K H c C.dat ∧ Dp K H x d ∧ ∀ H', Same H H' → Q (.bl (btw d 0 ((C.steps.length : Int) - 1))) H'
theorem ok_is_place (T : Txt K mg) : FnOk P w K mg base CX0 3 T.f_is_place T.d_is_place ["coder", "thing"] (sp_is_place K) := by
  refine T.F_is_place.ok sc_is_place (fun vs H Q E h => ?_) (fun cdv A outer s H vs Q E hr h => ?_)
  · obtain ⟨c, x, C, d, rfl, _⟩ := h
    rfl
  · obtain ⟨c, x, C, d, rfl, hc, hd, q⟩ := h
    obtain ⟨a, s, m, ms, rfl, ha, hs, hm, hmd⟩ := cod_at hc
    refine ⟨_,
(pss_one (ps_ret (pe_call (ok_is_between T) (hr.mono (by decide)) (by rfl) T.g_is_between T.F_is_between.kp T.b_is_between .nil pass0 (pa_cons (pv 1) (pa_cons pe_int (pa_cons (pe_op op_sub (pe_callB (call_len_seq) (by rfl) T.z_len (by decide +kernel) (pa_cons (pe_ix ix_tup (pv 0) pe_int (fun _ _ => rfl)) pa_nil)) pe_int) pa_nil))))))
, ?_⟩
    refine ⟨x, rfl, _, rfl, a, _, 2, .ref s, rfl, rfl, ha, atI_nat (j := 2) rfl, s, _, rfl, .inr hs, _, _, rfl, rfl, ?_⟩
    refine ⟨x, d, 0, _, rfl, hd, fun H1 s1 => ?_⟩
    show Q (.bl (btw d 0 (((C.steps.map V.int).length : Int) - 1))) H1
    rw [List.length_map]
    exact q H1 s1
def stateD (C : Cod) : PyData → Bool
  | .tuple [a, b] => btw a C.low C.high && btw b 0 ((C.steps.length : Int) - 1)
  | _ => false
theorem pairD_two {d : PyData} (h : pairD d = true) : ∃ a b, d = .tuple [a, b] := by
  cases d with
  | tuple ds =>
    match ds, h with
    | [a, b], _ => exact ⟨a, b, rfl⟩
    | [], hp => cases hp
    | [a], hp => cases hp
    | a :: b :: c :: r, hp =>
      have := of_decide_eq_true (show decide (((a :: b :: c :: r).length : Int) = 2) = true from hp)
      simp at this
      omega
  | _ => cases h
def sp_is_state (K : PySem.W.Frag) : Sp := fun vs H Q _ => ∃ (c x : V) (C : Cod) (d : PyData), vs = [c, x] ∧ Dp K H c C.dat ∧ Dp K H x d ∧ ∀ H', Same H H' → Q (.bl (stateD C d)) H'
theorem ok_is_state (T : Txt K mg) : FnOk P w K mg base CX0 4 T.f_is_state T.d_is_state ["coder", "thing"] (sp_is_state K) := by
  refine T.F_is_state.ok sc_is_state (fun vs H Q E h => ?_) (fun cdv A outer s H vs Q E hr h => ?_)
  · obtain ⟨c, x, C, d, rfl, _⟩ := h
    rfl
  · obtain ⟨c, x, C, d, rfl, hc, hd, q⟩ := h
    have q' : ∀ b H', Same H H' → stateD C d = b → Q (.bl b) H' := fun b H' s e => e ▸ q H' s
    refine ⟨_,
(pss_one (ps_ret (pe_and (pe_call (ok_is_pair T) (hr.mono (by decide)) (by rfl) T.g_is_pair T.F_is_pair.kp T.b_is_pair .nil pass0 (pa_cons (pv 1) pa_nil)) (pe_and (pe_call (ok_is_between T) (hr.mono (by decide)) (by rfl) T.g_is_between T.F_is_between.kp T.b_is_between .nil pass0 (pa_cons (pe_ix ix_tup (pv 1) pe_int (fun _ _ => rfl)) (pa_cons (pe_ix ix_tup (pv 0) pe_int (fun _ _ => rfl)) (pa_cons (pe_ix ix_tup (pv 0) pe_int (fun _ _ => rfl)) pa_nil)))) (pe_one (pe_call (ok_is_place T) (hr.mono (by decide)) (by rfl) T.g_is_place T.F_is_place.kp T.b_is_place .nil pass0 (pa_cons (pv 0) (pa_cons (pe_ix ix_tup (pv 1) pe_int (fun _ _ => rfl)) pa_nil))))))))
, ?_⟩
    refine ⟨x, rfl, x, d, rfl, hd, fun H1 s1 => ⟨_, rfl, ?_⟩⟩
    cases hp : pairD d with
    | false =>
      refine iteF (q' _ _ s1 ?_)
      unfold stateD
      split
      · cases hp
      · rfl
    | true =>
      refine iteT ?_
      obtain ⟨da, db, rfl⟩ := pairD_two hp
      obtain ⟨a, s, m, ms, rfl, ha, hs, hm, hmd⟩ := cod_at (dp_same s1 _ _ hc)
      obtain ⟨t, ts, rfl, ht, htd⟩ := dp_tup (dp_same s1 _ _ hd)
      obtain ⟨x1, x2, rfl, h1, h2⟩ := dpAll2 htd
      refine ⟨_, rfl, t, _, 0, x1, rfl, rfl, ht, atI_nat (j := 0) rfl, _, rfl, a, _, 0, _, rfl, rfl, ha, atI_nat (j := 0) rfl, _, rfl, a, _, 1, _, rfl, rfl, ha, atI_nat (j := 1) rfl,
        x1, da, C.low, C.high, rfl, h1, fun H2 s2 => ⟨_, rfl, ?_⟩⟩
      cases hb : btw da C.low C.high with
      | false => exact iteF (q' _ _ (s1.trans s2) (by show (btw da C.low C.high && btw db 0 ((C.steps.length : Int) - 1)) = false; rw [hb]; rfl))
      | true =>
        refine iteT ?_
        refine ⟨_, rfl, _, rfl, t, _, 1, x2, rfl, rfl, same_tup s2 ht, atI_nat (j := 1) rfl, .ref a, x2, C, db, rfl, dp_same s2 _ _ (dp_same s1 _ _ hc), dp_same s2 _ _ h2, fun H3 s3 => ?_⟩
        exact q' _ _ ((s1.trans s2).trans s3) (by show (btw da C.low C.high && btw db 0 ((C.steps.length : Int) - 1)) = _; rw [hb]; rfl)
end
end My

namespace My
open PySem PySem.Spec PyProof.Rows L2
def Cod.run (C : Cod) (s : Int × Int) : List Nat → Int × Int
  | [] => s
  | k :: r => Cod.run C (C.led s k) r
def Cod.lev (C : Cod) (s : Int × Int) : List Nat → List Int
  | [] => []
  | k :: r => (C.led s k).1 :: Cod.lev C (C.led s k) r
theorem run_snoc {C : Cod} : ∀ (r : List Nat) (s : Int × Int) (k : Nat), C.run s (r ++ [k]) = C.led (C.run s r) k
  | [], _, _ => rfl
  | j :: r, s, k => run_snoc r (C.led s j) k
theorem run_app {C : Cod} : ∀ (r : List Nat) (s : Int × Int) (q : List Nat), C.run s (r ++ q) = C.run (C.run s r) q
  | [], _, _ => rfl
  | j :: r, s, q => run_app r (C.led s j) q
theorem lev_snoc {C : Cod} : ∀ (r : List Nat) (s : Int × Int) (k : Nat), C.lev s (r ++ [k]) = C.lev s r ++ [(C.led (C.run s r) k).1]
  | [], _, _ => rfl
  | j :: r, s, k => by
    show (C.led s j).1 :: C.lev (C.led s j) (r ++ [k]) = _
    rw [lev_snoc r (C.led s j) k]
    rfl
theorem lev_app {C : Cod} : ∀ (r : List Nat) (s : Int × Int) (q : List Nat), C.lev s (r ++ q) = C.lev s r ++ C.lev (C.run s r) q
  | [], _, _ => rfl
  | j :: r, s, q => by
    show (C.led s j).1 :: C.lev (C.led s j) (r ++ q) = _
    rw [lev_app r (C.led s j) q]
    rfl
theorem lev_len {C : Cod} : ∀ (r : List Nat) (s : Int × Int), (C.lev s r).length = r.length
  | [], _ => rfl
  | j :: r, s => congrArg (· + 1) (lev_len r (C.led s j))
theorem run_St {C : Cod} (O : C.Ok) : ∀ (r : List Nat) {s : Int × Int}, C.St s → C.St (C.run s r)
  | [], _, h => h
  | k :: r, s, _ => run_St O r (C.led_St O s k)
theorem lev_in {C : Cod} (O : C.Ok) : ∀ (r : List Nat) (s : Int × Int), ∀ z ∈ C.lev s r, C.low ≤ z ∧ z ≤ C.high
  | [], _, _, h => by cases h
  | k :: r, s, z, h => by
    rcases List.mem_cons.mp h with e | e
    · rw [e]
      have := C.led_St O s k
      exact ⟨this.1, this.2.1⟩
    · exact lev_in O r _ z e
def rowI (r : List Nat) : PyData := .tuple (r.map fun k : Nat => PyData.int (k : Int))
def rowV (r : List Nat) : List V := r.map fun k : Nat => V.int (k : Int)
structure Cod.Row (C : Cod) (r : List Nat) : Prop where
  len : r.length ≤ 2000
  lt : ∀ k ∈ r, k < C.moves.length
theorem Cod.St.ok {C : Cod} {s : Int × Int} (h : C.St s) : stateD C (pairI s) = true := by
  show (btw (.int s.1) _ _ && btw (.int s.2) _ _) = true
  rw [btw_in h.1 h.2.1, btw_in h.2.2.1 (by have := h.2.2.2; omega)]
  rfl
theorem dpAll_row {K : PySem.W.Frag} {H : Hp} : ∀ {r : List Nat} {xs : List V}, DpAll K H xs (r.map fun k : Nat => PyData.int (k : Int)) → xs = rowV r
  | [], _, h => by cases h; rfl
  | n :: r, _, h => by
    cases h with
    | cons a b =>
      cases a
      rw [dpAll_row b]
      rfl
theorem row_at {K : PySem.W.Frag} {H : Hp} {v : V} {r : List Nat} (h : Dp K H v (rowI r)) : ∃ a, v = .ref a ∧ SqT K H a (rowV r) := by
  obtain ⟨a, xs, rfl, ha, hd⟩ := dp_tup h
  rw [dpAll_row hd] at ha
  exact ⟨a, rfl, ha⟩
theorem rowV_get {r : List Nat} {i : Nat} {x : V} (h : (rowV r)[i]? = some x) : ∃ k, r[i]? = some k ∧ x = .int (k : Int) := by
  unfold rowV at h
  rw [List.getElem?_map] at h
  cases e : r[i]? with
  | none => rw [e] at h; cases h
  | some k => rw [e] at h; exact ⟨k, rfl, (Option.some.inj h).symm⟩
theorem take_snoc {α : Type} {r : List α} {i : Nat} {k : α} (h : r[i]? = some k) : r.take (i + 1) = r.take i ++ [k] := by
  rw [List.take_add_one, h]
  rfl
/-- a tuple stands while a list is changed -/
theorem sqt_set {K : PySem.W.Frag} {H : Hp} {p a : Addr} {ys xs : List V} {o : HO} (hp : H p = some (.lst ys)) (h : SqT K H a xs) : SqT K (upd H p o) a xs := by
  rcases h with (h | ⟨u, h⟩) | h
  · exact .inl (.inl ((upd_ne (ne_of h hp nofun)).trans h))
  · exact .inl (.inr ⟨u, (upd_ne (ne_of h hp nofun)).trans h⟩)
  · exact .inr h
theorem dp_mkpair {K : PySem.W.Frag} {H : Hp} {a : Addr} {s : Int × Int} (h : SqT K H a [.int s.1, .int s.2]) : Dp K H (.ref a) (pairI s) := .tup h (.cons (.int _) (.cons (.int _) .nil))
theorem dp_tints {K : PySem.W.Frag} {H : Hp} {a : Addr} {ns : List Int} (h : SqT K H a (ns.map V.int)) : Dp K H (.ref a) (.tuple (ns.map .int)) := by
  refine .tup h ?_
  clear h
  induction ns with
  | nil => exact .nil
  | cons n r ih => exact .cons (.int n) ih
end My

namespace My
open PySem PySem.Spec PyProof.Rows L2
theorem dg_l {H : Hp} {m c l : Addr} {k : Int} (h : H m = some (.dK (dd c l k))) : DGet H m (.str "left") (some (.ref l)) := by
  have e := DGet.k (k := .inr "left") h
  rw [dd_l] at e
  exact e
theorem dg_c {H : Hp} {m c l : Addr} {k : Int} (h : H m = some (.dK (dd c l k))) : DGet H m (.str "cells") (some (.ref c)) := by
  have e := DGet.k (k := .inr "cells") h
  rw [dd_c] at e
  exact e
theorem dg_a {H : Hp} {m c l : Addr} {k : Int} (h : H m = some (.dK (dd c l k))) : DGet H m (.str "at") (some (.int k)) := by
  have e := DGet.k (k := .inr "at") h
  rw [dd_a] at e
  exact e
theorem dp_l {H : Hp} {m c l p : Addr} {k : Int} (h : H m = some (.dK (dd c l k))) : DPut H m (.str "left") (.ref p) (upd H m (.dK (dd c p k))) := by
  have e := DPut.k (k := .inr "left") (v := .ref p) h (by show 3 < sizeLine; decide)
  rw [dd_pl] at e
  exact e
theorem dp_a {H : Hp} {m c l : Addr} {k z : Int} (h : H m = some (.dK (dd c l k))) : DPut H m (.str "at") (.int z) (upd H m (.dK (dd c l z))) := by
  have e := DPut.k (k := .inr "at") (v := .int z) h (by show 3 < sizeLine; decide)
  rw [dd_pa] at e
  exact e
def pis (ns : List Int) : List PyData := ns.map .int
theorem dp_ints {K : PySem.W.Frag} {H : Hp} : ∀ ns : List Int, DpAll K H (ns.map V.int) (pis ns)
  | [] => .nil
  | n :: r => .cons (.int n) (dp_ints r)
theorem lay_ints : ∀ ns : List Int, PyData.canLayAll0 (pis ns) = true ∧ PyData.depthAll (pis ns) = 0
  | [] => ⟨rfl, rfl⟩
  | n :: r => by
    obtain ⟨h1, h2⟩ := lay_ints r
    exact ⟨by show ((PyData.int n).canLay0 && PyData.canLayAll0 (pis r)) = true; rw [h1]; rfl, by show max 0 (PyData.depthAll (pis r)) = 0; rw [h2]; rfl⟩
theorem shaped_ints (ns : List Int) : SeqAt.shaped (.list (pis ns)) = true := by
  obtain ⟨h1, h2⟩ := lay_ints ns
  show (PyData.canLayAll0 (pis ns) && decide (PyData.depthAll (pis ns) + 1 ≤ 64)) = true
  rw [h1, h2]
  rfl
theorem eqv_nil (ns : List Int) : PyData.eqv (.list (pis ns)) (.list []) = ns.isEmpty := by
  cases ns <;> rfl
section
variable {P : Program} {w : World} {K : PySem.W.Frag} {mg : Str → Option Value} {base : Heap}
theorem ixN_nat {n j : Nat} (h : j < n) : ixN n (j : Int) = some j := by
  unfold ixN
  rw [if_pos (by omega), if_pos (by omega)]
  simp
def sp_law_next : Sp := fun vs H Q _ => ∃ (m c l : Addr) (n : Nat) (many : Int), vs = [.ref m, .int many] ∧ 0 < many ∧ many < 2 ^ 100 ∧ Dr H m c l (n + 1) ∧
  ∀ (r : Int) (l' : Addr) (H' : Hp), 0 ≤ r → r < many → Kp m l H l' H' → Dr H' m c l' n → Q (.int r) H'
theorem ok_law_next (T : Txt K mg) : FnOk P w K mg base CX0 2 T.f__law_next T.d__law_next ["m", "many"] sp_law_next := by
  refine T.F__law_next.ok sc_law_next (fun vs H Q E h => ?_) (fun cdv A outer s H vs Q E hr h => ?_)
  · obtain ⟨m, c, l, n, many, rfl, _⟩ := h
    rfl
  · obtain ⟨m, c, l, n, many, rfl, p1, p2, D, q⟩ := h
    have hu := hu_of hr
    refine ⟨_,
(pss_cons (ps_while PassesOwn.never (PW.pt (pw_and (pt_cmpR (op_neD hr.units) (pe_dget hu (pv 0) pe_str (fun _ _ => rfl)) (pe_lst pa_nil) (nomark _)) (pw_and1 (pt_cmpR op_eq (pe_ix ix_list (pe_dget hu (pv 0) pe_str (fun _ _ => rfl)) pe_int (fun _ _ => rfl)) pe_int (nomark _))))) (pss_one (ps_dput hu (pv 0) pe_str (pe_slice sl_list (pe_dget hu (pv 0) pe_str (fun _ _ => rfl)) (po_some pe_int) po_none) rfl)))
      (pss_cons (ps_if (pt_cmpR (op_neD hr.units) (pe_dget hu (pv 0) pe_str (fun _ _ => rfl)) (pe_lst pa_nil) (nomark _)) (pss_cons (ps_set (i := 2) sc_law_next.nd rfl (Or.inl rfl) (pe_callTy call_int1 (by rfl) T.z_int (by decide +kernel) (pa_cons (pe_ix ix_list (pe_dget hu (pv 0) pe_str (fun _ _ => rfl)) pe_int (fun _ _ => rfl)) pa_nil)))
      (pss_cons (ps_asg (pe_op op_fdivW (pv 2) (pv 1)) (pg_sub (pe_dget hu (pv 0) pe_str (fun _ _ => rfl)) pe_int set_list))
      (pss_one (ps_ret (pe_op op_modN (pv 2) (pv 1)))))) pss_nil)
      (pss_cons (ps_set (i := 3) sc_law_next.nd rfl (Or.inl rfl) (pe_op op_add (pe_dget hu (pv 0) pe_str (fun _ _ => rfl)) pe_int))
      (pss_cons (ps_dput hu (pv 0) pe_str (pv 3) rfl)
      (pss_cons (ps_set (i := 4) sc_law_next.nd rfl (Or.inl rfl) (pe_ifExp (pt_cmpR (op_neD hr.units) (pe_dget hu (pv 0) pe_str (fun _ _ => rfl)) (pe_lst pa_nil) (nomark _)) (pe_ix ix_list (pe_dget hu (pv 0) pe_str (fun _ _ => rfl)) (pe_op op_modN (pe_callTy call_int1 (by rfl) T.z_int (by decide +kernel) (pa_cons (pv 3) pa_nil)) (pe_callB (call_len_seq) (by rfl) T.z_len (by decide +kernel) (pa_cons (pe_dget hu (pv 0) pe_str (fun _ _ => rfl)) pa_nil))) (fun _ _ => rfl)) pe_int))
      (pss_cons (ps_set (i := 5) sc_law_next.nd rfl (Or.inl rfl) (pe_op op_mul (pe_callTy call_int1 (by rfl) T.z_int (by decide +kernel) (pa_cons (pe_op op_add (pe_op op_add (pe_op op_modN (pe_callTy call_int1 (by rfl) T.z_int (by decide +kernel) (pa_cons (pv 4) pa_nil)) pe_int) (pe_op op_mul pe_int (pv 3))) (pe_op op_mul (pe_op op_mul pe_int (pv 3)) (pv 3))) pa_nil)) pe_int))
      (pss_cons (ps_set (i := 5) sc_law_next.nd rfl (Or.inl rfl) (pe_op op_mul (pe_callTy call_int1 (by rfl) T.z_int (by decide +kernel) (pa_cons (pe_op op_add (pe_op op_modN (pe_callTy call_int1 (by rfl) T.z_int (by decide +kernel) (pa_cons (pv 5) pa_nil)) pe_int) (pe_op op_mul pe_int (pv 3))) pa_nil)) pe_int))
      (pss_one (ps_ret (pe_op op_modN (pe_callTy call_int1 (by rfl) T.z_int (by decide +kernel) (pa_cons (pe_op op_fdivN (pe_op op_modN (pe_callTy call_int1 (by rfl) T.z_int (by decide +kernel) (pa_cons (pv 5) pa_nil)) pe_int) pe_int) pa_nil)) (pv 1)))))))))))
, ?_⟩
    refine st_tail (fun σ H' => ∃ (l' : Addr), σ = [some (.ref m), some (.int many), none, none, none, none] ∧ Kp m l H l' H' ∧ Dr H' m c l' (n + 1)) ?_ fun tail => ?_
    · rintro σ H1 ⟨l1, rfl, kp, D1⟩
      obtain ⟨cs, ls, k, h1, h2, h3, ncl, lc, ll, pos, k0, kn⟩ := D1.ex
      have nml : m ≠ l1 := ne_of h1 h3 nofun
      have nmc : m ≠ c := ne_of h1 h2 nofun
      -- if m['left'] != []
      refine ⟨_, rfl, m, .ref l1, rfl, dg_l h1, Nat.zero_le _, fun p hp => ?_⟩
      have g1 := same_new (o := .lst []) hp _ _ h1
      have g2 := same_new (o := .lst []) hp _ _ h2
      have g3 := same_new (o := .lst []) hp _ _ h3
      refine ⟨.list (pis ls), .list [], .lst (SqL.of g3) (dp_ints ls), .lst (SqL.of upd_same) .nil, shaped_ints ls, by rfl, _, rfl, ?_⟩
      rw [eqv_nil]
      have kp2 : Kp m l H l1 (upd H1 p (.lst [])) := kp.trans (Kp.new hp)
      have D2 : Dr (upd H1 p (.lst [])) m c l1 (n + 1) := D1.new hp
      cases ls with
      | cons x r =>
        refine iteT ?_
        have x0 : 0 ≤ x := pos x List.mem_cons_self
        refine ⟨_, rfl, m, .ref l1, rfl, dg_l g1, l1, _, 0, .int x, rfl, rfl, SqL.of g3, atI_nat (j := 0) rfl, .inl ⟨x, rfl, ?_⟩⟩
        -- m['left'][0] = rest // many
        refine ⟨_, rfl, _, rfl, x, many, rfl, rfl, wide_div (b := 100) p1 (by omega) (by decide) (by decide), _, rfl, m, .ref l1, rfl, dg_l g1, l1, _, 0, 0, rfl, rfl, g3, ixN_nat (j := 0) (by simp), ?_⟩
        refine ⟨_, rfl, _, rfl, x, many, rfl, rfl, by omega, ?_⟩
        show Q (.int (x.fmod many)) (upd (upd H1 p (.lst [])) l1 (.lst (((x / many) :: r).map V.int)))
        rw [Int.fmod_eq_emod_of_nonneg x (by omega)]
        refine q _ l1 _ (Int.emod_nonneg _ (by omega)) (Int.emod_lt_of_pos _ p1) ⟨fun b o hb n1 n2 => ?_, kp2.nw, fun b hb => ?_⟩ ⟨cs, (x / many) :: r, k, ?_, ?_, ?_, ncl, lc, ll, ?_, k0, by omega⟩
        · have e := kp2.st b o hb n1 n2
          rw [upd_ne (kp2.off hb n2)]
          exact e
        · refine kp2.dm b ?_
          unfold upd at hb ⊢
          split at hb
          · cases hb
          · exact hb
        · rw [upd_ne nml]; exact g1
        · rw [upd_ne ncl]; exact g2
        · exact upd_same
        · intro y hy
          rcases List.mem_cons.mp hy with e | e
          · rw [e]; exact Int.ediv_nonneg x0 (by omega)
          · exact pos y (List.mem_cons_of_mem _ e)
      | nil =>
        refine iteF ?_
        refine ⟨_, rfl, m, .int k, rfl, dg_a g1, _, _, rfl, rfl, _, rfl, _, rfl, m, _, rfl, dp_a g1, ?_⟩
        have a1 : (upd (upd H1 p (.lst [])) m (.dK (dd c l1 (k + 1)))) m = some (.dK (dd c l1 (k + 1))) := upd_same
        have a2 := (upd_ne (H := upd H1 p (.lst [])) (o := .dK (dd c l1 (k + 1))) nmc.symm).trans g2
        have a3 := (upd_ne (H := upd H1 p (.lst [])) (o := .dK (dd c l1 (k + 1))) nml.symm).trans g3
        have kp3 : Kp m l H l1 (upd (upd H1 p (.lst [])) m (.dK (dd c l1 (k + 1)))) := ⟨fun b o hb n1 n2 => (upd_ne n1).trans (kp2.st b o hb n1 n2), kp2.nw, fun b hb => kp2.dm b (by
          unfold upd at hb ⊢
          split at hb
          · cases hb
          · exact hb)⟩
        have D3 : Dr (upd (upd H1 p (.lst [])) m (.dK (dd c l1 (k + 1)))) m c l1 n := ⟨cs, [], k + 1, a1, a2, a3, ncl, lc, ll, pos, by omega, by omega⟩
        generalize upd (upd H1 p (.lst [])) m (.dK (dd c l1 (k + 1))) = H3 at a1 a2 a3 kp3 D3
        -- cell
        dsimp only
        refine st_tail (fun σ H' => ∃ (z : Int), σ = [some (.ref m), some (.int many), none, some (.int (k + 1)), some (.int z), none] ∧ Kp m l H l1 H' ∧ Dr H' m c l1 n) ?_ fun tail => ?_
        · rintro σ H4 ⟨z, rfl, kp4, D4⟩
          have kb : k + 1 ≤ 1000000 := by omega
          refine ⟨_, rfl, .inl ⟨z, rfl, _, _, rfl, rfl, (show (2147483629 : Int) ≠ 0 by decide), _, rfl, _, _, rfl, rfl, .inl ⟨by decide, by decide⟩, _, _, rfl, rfl, _, rfl, _, _, rfl, rfl, .inl ⟨by decide, by decide⟩,
            _, rfl, _, _, rfl, rfl, .inl ⟨by show -(2 ^ 64) < 19 * (k + 1); omega, by show 19 * (k + 1) < 2 ^ 64; omega⟩, _, _, rfl, rfl, .inl ⟨_, rfl, _, _, rfl, rfl, .inr ⟨by decide, by decide⟩, ?_⟩⟩⟩
          refine ⟨_, rfl, .inl ⟨_, rfl, _, _, rfl, rfl, (show (2147483647 : Int) ≠ 0 by decide), _, rfl, _, _, rfl, rfl, .inl ⟨by decide, by decide⟩, _, _, rfl, rfl, .inl ⟨_, rfl, _, _, rfl, rfl, .inr ⟨by decide, by decide⟩, ?_⟩⟩⟩
          refine ⟨_, rfl, .inl ⟨_, rfl, _, _, rfl, rfl, (show (2147483587 : Int) ≠ 0 by decide), _, _, rfl, rfl, ⟨by decide, by decide⟩, .inl ⟨_, rfl, _, rfl, _, _, rfl, rfl, by omega, ?_⟩⟩⟩
          refine q _ l1 _ ?_ ?_ kp4 D4
          · rw [Int.fmod_eq_emod_of_nonneg _ (by omega)]
            exact Int.emod_nonneg _ (by omega)
          · rw [Int.fmod_eq_emod_of_nonneg _ (by omega)]
            exact Int.emod_lt_of_pos _ p1
        refine ⟨_, rfl, m, .ref c, rfl, dg_c a1, Nat.zero_le _, fun p' hp' => ?_⟩
        have b1 := same_new (o := .lst []) hp' _ _ a1
        have b2 := same_new (o := .lst []) hp' _ _ a2
        refine ⟨.list (pis cs), .list [], .lst (SqL.of b2) (dp_ints cs), .lst (SqL.of upd_same) .nil, shaped_ints cs, by rfl, _, rfl, ?_⟩
        rw [eqv_nil]
        have kp4 : Kp m l H l1 (upd H3 p' (.lst [])) := kp3.trans (Kp.new hp')
        have D4 : Dr (upd H3 p' (.lst [])) m c l1 n := D3.new hp'
        cases cs with
        | nil =>
          refine iteF ?_
          exact tail _ _ ⟨3, rfl, kp4, D4⟩
        | cons y r =>
          refine iteT ?_
          obtain ⟨j, z, hj⟩ : ∃ (j : Nat) (z : Int), (k + 1).fmod (((y :: r).map V.int).length : Int) = (j : Int) ∧ ((y :: r).map V.int)[j]? = some (.int z) := by
            have hl : (0 : Int) < (((y :: r).map V.int).length : Int) := by
              show (0 : Int) < (((r.map V.int).length + 1 : Nat) : Int)
              omega
            rw [Int.fmod_eq_emod_of_nonneg _ (by omega)]
            have e1 := Int.emod_nonneg (k + 1) (b := (((y :: r).map V.int).length : Int)) (by omega)
            have e2 := Int.emod_lt_of_pos (k + 1) hl
            have hj : ((k + 1) % (((y :: r).map V.int).length : Int)).toNat < (y :: r).length := by
              have : ((y :: r).map V.int).length = (y :: r).length := List.length_map ..
              omega
            refine ⟨((k + 1) % (((y :: r).map V.int).length : Int)).toNat, (y :: r)[((k + 1) % (((y :: r).map V.int).length : Int)).toNat], by omega, ?_⟩
            rw [List.getElem?_map, List.getElem?_eq_getElem hj]
            rfl
          refine ⟨_, rfl, m, .ref c, rfl, dg_c b1, _, rfl, .inl ⟨_, rfl, _, rfl, m, .ref c, rfl, dg_c b1, c, _, rfl, .inl (SqL.of b2), _, _, rfl, rfl, by show (((y :: r).map V.int).length : Int) ≠ 0; simp; omega, c, _, _, .int z, rfl, rfl, SqL.of b2, ?_, ?_⟩⟩
          · show atI _ ((k + 1).fmod (((y :: r).map V.int).length : Int)) = some _
            rw [hj.1]
            exact atI_nat hj.2
          exact tail _ _ ⟨z, rfl, kp4, D4⟩
    -- the loop
    refine ⟨fun cnt σ H' => ∃ (l' : Addr) (cs ls : List Int) (k : Int), σ = [some (.ref m), some (.int many), none, none, none, none] ∧ Kp m l H l' H' ∧ ls.length = cnt ∧
      H' m = some (.dK (dd c l' k)) ∧ H' c = some (.lst (cs.map V.int)) ∧ H' l' = some (.lst (ls.map V.int)) ∧ c ≠ l' ∧
      cs.length ≤ 63 ∧ ls.length ≤ 63 ∧ (∀ x ∈ ls, 0 ≤ x) ∧ 0 ≤ k ∧ k + ((n + 1 : Nat) : Int) ≤ 1000000, ?_, ?_⟩
    · obtain ⟨cs, ls, k, r⟩ := D.ex
      exact ⟨ls.length, l, cs, ls, k, rfl, Kp.refl m l H, rfl, r⟩
    rintro cnt σ H1 ⟨l1, cs, ls, k, rfl, kp, hcnt, h1, h2, h3, ncl, lc, ll, pos, k0, kn⟩
    have nml : m ≠ l1 := ne_of h1 h3 nofun
    have nmc : m ≠ c := ne_of h1 h2 nofun
    refine ⟨_, rfl, m, .ref l1, rfl, dg_l h1, Nat.zero_le _, fun p hp => ?_⟩
    have g1 := same_new (o := .lst []) hp _ _ h1
    have g2 := same_new (o := .lst []) hp _ _ h2
    have g3 := same_new (o := .lst []) hp _ _ h3
    have kp2 : Kp m l H l1 (upd H1 p (.lst [])) := kp.trans (Kp.new hp)
    have D2 : Dr (upd H1 p (.lst [])) m c l1 (n + 1) := ⟨cs, ls, k, g1, g2, g3, ncl, lc, ll, pos, k0, kn⟩
    refine ⟨.list (pis ls), .list [], .lst (SqL.of g3) (dp_ints ls), .lst (SqL.of upd_same) .nil, shaped_ints ls, by rfl, _, rfl, ?_⟩
    rw [eqv_nil]
    cases ls with
    | nil =>
      refine iteF ?_
      refine iteF ?_
      exact tail _ _ ⟨l1, rfl, kp2, D2⟩
    | cons x r =>
      refine iteT ?_
      refine ⟨_, rfl, m, .ref l1, rfl, dg_l g1, l1, _, 0, .int x, rfl, rfl, SqL.of g3, atI_nat (j := 0) rfl, rfl, _, rfl, ?_⟩
      refine ite2 (fun e => ?_) (fun e => tail _ _ ⟨l1, rfl, kp2, D2⟩)
      generalize upd H1 p (.lst []) = H3 at g1 g2 g3 kp2 D2
      refine ⟨_, fun σ' H' hN => hN, ?_⟩
      refine ⟨_, rfl, m, .ref l1, rfl, dg_l g1, 1, rfl, l1, _, rfl, SqL.of g3, fun p2 hp2 => ⟨_, rfl, m, _, rfl, dp_l (same_new hp2 _ _ g1), ?_⟩⟩
      have np1 : p2 ≠ m := (ne_of_none g1 hp2).symm
      have np2 : p2 ≠ c := (ne_of_none g2 hp2).symm
      refine ⟨r.length, by rw [← hcnt]; simp, p2, cs, r, k, rfl, ⟨fun b o hb q1 q2 => ?_, ?_, fun b hb => ?_⟩, rfl, upd_same, (upd_ne nmc.symm).trans ((upd_ne np2.symm).trans g2), (upd_ne np1).trans ?_, np2.symm, lc, by simp at ll ⊢; omega, fun y hy => pos y (List.mem_cons_of_mem _ hy), k0, kn⟩
      · have e := kp2.st b o hb q1 q2
        rw [upd_ne q1, upd_ne (ne_of_none e hp2)]
        exact e
      · exact .inr (kp2.dm _ hp2)
      · refine kp2.dm b ?_
        unfold upd at hb
        split at hb
        · cases hb
        · split at hb
          · cases hb
          · exact hb
      · rw [upd_same]
        unfold cutV
        rw [HT.sIx_none, show HT.sIx ((x :: r).map V.int).length 0 (some 1) = min 1 ((x :: r).map V.int).length from HT.sIx_nat _ 0 1, show min 1 ((x :: r).map V.int).length = 1 by simp]
        show some (HO.lst (List.take (((x :: r).map V.int).length - 1) (r.map V.int))) = _
        rw [List.take_of_length_le (by simp)]
def sp_law_begun (K : PySem.W.Frag) : Sp := fun vs H Q _ => ∃ (a : Addr) (ns : List Int), vs = [.ref a] ∧ SqL K H a (ns.map V.int) ∧ ns.length ≤ 63 ∧
  ∀ (m c l : Addr) (H' : Hp), Same H H' → H m = none → H c = none → H l = none → Dr H' m c l 900000 → Q (.ref m) H'
theorem ok_law_begun (T : Txt K mg) : FnOk P w K mg base CX0 2 T.f__law_begun T.d__law_begun ["script"] (sp_law_begun K) := by
  refine T.F__law_begun.ok sc_law_begun (fun vs H Q E h => ?_) (fun cdv A outer s H vs Q E hr h => ?_)
  · obtain ⟨a, ns, rfl, _⟩ := h
    rfl
  · obtain ⟨a, ns, rfl, hS, hl, q⟩ := h
    have hu := hu_of hr
    refine ⟨_,
(pss_one (ps_ret (pe_disp (pps_cons pe_str (pe_callTy call_list_of (by rfl) T.z_list (by decide +kernel) (pa_cons (pv 0) pa_nil)) (pps_cons pe_str (pe_lc (own := [("cell", 1)]) rfl sc_law_begun.nd (pi_list (pv 0)) (blkOk_by (own := [("cell", 1)]) (N := ["script", "cell"]) (sc := defScope s_law_begun) (by decide +kernel)) (fun _ _ _ _ _ => (pg_name (i := 1) sc_law_begun.nd rfl (Or.inl rfl))) (fun _ _ _ _ _ => pts_one (pt_cmpR op_ge (pv 1) (pe_op op_pow pe_int pe_int) (nomark _))) (fun _ _ _ _ _ => (pv 1))) (pps_cons pe_str pe_int pps_nil))) (by rfl) (by rfl) (fun z => by cases z) (by decide))))
, ?_⟩
    intro p hp
    have s1 : Same H (upd H p (.dK [])) := same_new hp
    refine ⟨.ref a, rfl, a, _, rfl, .inl (s1.seq hS), fun c hc => ?_⟩
    have s2 := s1.trans (same_new (o := .lst (ns.map V.int)) hc)
    have ncp : p ≠ c := fun e => by rw [← e, upd_same] at hc; cases hc
    have e1 : upd (upd H p (.dK [])) c (.lst (ns.map V.int)) p = some (.dK []) := (upd_ne ncp).trans upd_same
    have e2 : upd (upd H p (.dK [])) c (.lst (ns.map V.int)) c = some (.lst (ns.map V.int)) := upd_same
    have hc0 : H c = none := s1.free hc
    generalize upd (upd H p (.dK [])) c (.lst (ns.map V.int)) = H1 at s2 e1 e2
    refine ⟨.ref a, rfl, a, rfl, ⟨_, s2.seq hS⟩, fun l hD => ?_⟩
    have nlp : p ≠ l := ne_of_none e1 hD
    have nlc : c ≠ l := ne_of_none e2 hD
    have hl0 : H l = none := s2.free hD
    refine lc_list (K := K) (a := a) (xs := ns.map V.int) (fun i H' => ∃ ls : List Int, ls.length ≤ i ∧ (∀ x ∈ ls, 0 ≤ x) ∧ H' = upd H1 l (.lst (ls.map V.int))) ⟨[], by simp, by simp, rfl⟩ ?_ ?_ ?_
    · rintro i H' _ ⟨ls, _, _, rfl⟩
      exact (same_new hD).seq (s2.seq hS)
    · rintro i x H' hx ⟨ls, h1, h2, rfl⟩
      obtain ⟨z, rfl⟩ : ∃ z, x = V.int z := by
        rw [List.getElem?_map] at hx
        cases e : ns[i]? with
        | none => rw [e] at hx; cases hx
        | some z => rw [e] at hx; exact ⟨z, (Option.some.inj hx).symm⟩
      have hi : i < 63 := by
        have := (List.getElem?_eq_some_iff.mp hx).1
        rw [List.length_map] at this
        omega
      refine ⟨rfl, _, rfl, 10, 18, rfl, rfl, ⟨by decide, by decide, by decide⟩, z, 1000000000000000000, rfl, rfl, _, rfl, ?_⟩
      refine ite2 (fun e => ?_) (fun e => ⟨ls, by omega, h2, rfl⟩)
      refine ⟨.int z, rfl, _, upd_same, ?_, ls ++ [z], ?_, ?_, ?_⟩
      · rw [List.length_map]; exact small1000 (by omega)
      · simp; omega
      · intro y hy
        rcases List.mem_append.mp hy with k | k
        · exact h2 y k
        · rw [List.mem_singleton.mp k]
          have := of_decide_eq_true e
          omega
      · rw [upd_upd, List.map_append]
        rfl
    · rintro H' ⟨ls, h1, h2, rfl⟩
      refine ⟨(upd_ne nlp).trans e1, [(Sum.inr "cells", V.ref c), (Sum.inr "left", V.ref l), (Sum.inr "at", V.int 0)], rfl, by show 3 ≤ 15; decide, ?_⟩
      rw [dd_mk]
      refine q p c l _ (fun b o hb => ?_) hp hc0 hl0 ⟨ns, ls, 0, upd_same, ?_, ?_, nlc, hl, by rw [List.length_map] at h1; omega, h2, by decide, by decide⟩
      · rw [upd_ne (ne_of_none hb hp), upd_ne (ne_of_none hb hl0)]
        exact s2 _ _ hb
      · rw [upd_ne ncp.symm, upd_ne nlc]; exact e2
      · rw [upd_ne nlp.symm, upd_same]
end
end My

namespace My
open PySem PySem.Spec PyProof.Rows L2
theorem dpAll_app {K : PySem.W.Frag} {H : Hp} : ∀ {xs ys : List V} {ds es : List PyData}, DpAll K H xs ds → DpAll K H ys es → DpAll K H (xs ++ ys) (ds ++ es)
  | _, _, _, _, .nil, h => h
  | _, _, _, _, .cons a b, h => .cons a (dpAll_app b h)
theorem pairs_set {K : PySem.W.Frag} {H : Hp} {p : Addr} {zs : List V} {o : HO} (hp : H p = some (.lst zs)) : ∀ {ss : List (Int × Int)} {xs : List V}, DpAll K H xs (ss.map pairI) → DpAll K (upd H p o) xs (ss.map pairI)
  | [], _, h => by cases h; exact .nil
  | s :: r, _, h => by
    cases h with
    | cons a b =>
      obtain ⟨t, rfl, ht⟩ := dp_pair a
      exact .cons (dp_mkpair (sqt_set hp ht)) (pairs_set hp b)
/-! ### what stands through draws: tuples -/
def Tp : HO → Prop
  | .tup _ => True
  | .frz _ _ => True
  | _ => False
def Keep (H H' : Hp) : Prop := ∀ b o, H b = some o → Tp o → H' b = some o
theorem Keep.refl (H : Hp) : Keep H H := fun _ _ h _ => h
theorem Keep.trans {H H1 H2 : Hp} (a : Keep H H1) (b : Keep H1 H2) : Keep H H2 := fun c o h t => b c o (a c o h t) t
theorem keep_same {H H' : Hp} (s : Same H H') : Keep H H' := fun b o h _ => s b o h
theorem keep_set {H : Hp} {p : Addr} {ys : List V} {o : HO} (hp : H p = some (.lst ys)) : Keep H (upd H p o) := fun b u h t => by
  have nb : b ≠ p := fun e => by
    rw [e, hp] at h
    cases h
    exact t
  rw [upd_ne nb]
  exact h
theorem keep_draw {m c l l' n : Addr} {H H' : Hp} (k : Kp m l H l' H') (d : Dr H m c l n) : Keep H H' := fun b o h t => by
  obtain ⟨cs, ls, z, h1, h2, h3, r⟩ := d.ex
  refine k.st b o h (fun e => ?_) (fun e => ?_)
  · rw [e, h1] at h
    cases h
    exact t
  · rw [e, h3] at h
    cases h
    exact t
theorem Keep.tup {K : PySem.W.Frag} {H H' : Hp} {a : Addr} {xs : List V} (k : Keep H H') (h : SqT K H a xs) : SqT K H' a xs := by
  rcases h with (h | ⟨u, h⟩) | h
  · exact .inl (.inl (k _ _ h trivial))
  · exact .inl (.inr ⟨u, k _ _ h trivial⟩)
  · exact .inr h
mutual
def noL : PyData → Bool
  | .list _ => false
  | .tuple ds => noLs ds
  | _ => true
def noLs : List PyData → Bool
  | [] => true
  | d :: r => noL d && noLs r
end
mutual
theorem dp_keep {K : PySem.W.Frag} {H H' : Hp} (s : Keep H H') : ∀ (d : PyData) (v : V), noL d = true → Dp K H v d → Dp K H' v d
  | .none, _, _, h => by cases h; exact .non
  | .bool _, _, _, h => by cases h; exact .bl _
  | .int _, _, _, h => by cases h; exact .int _
  | .str _, _, _, h => by cases h; exact .str _
  | .list ds, _, n, h => by cases n
  | .tuple ds, _, n, h => by
    cases h with
    | tup a b => exact .tup (s.tup a) (dpAll_keep s ds _ n b)
  | .dict _, _, _, h => by cases h
theorem dpAll_keep {K : PySem.W.Frag} {H H' : Hp} (s : Keep H H') : ∀ (ds : List PyData) (vs : List V), noLs ds = true → DpAll K H vs ds → DpAll K H' vs ds
  | [], _, _, h => by cases h; exact .nil
  | d :: ds, _, n, h => by
    cases h with
    | cons a b =>
      obtain ⟨n1, n2⟩ := Bool.and_eq_true_iff.mp (show (noL d && noLs ds) = true from n)
      exact .cons (dp_keep s d _ n1 a) (dpAll_keep s ds _ n2 b)
end
theorem noLs_all : ∀ {ds : List PyData}, (∀ d ∈ ds, noL d = true) → noLs ds = true
  | [], _ => rfl
  | d :: r, h => by
    show (noL d && noLs r) = true
    rw [h d List.mem_cons_self, noLs_all fun e he => h e (List.mem_cons_of_mem _ he)]
    rfl
theorem noL_pair (p : Int × Int) : noL (pairI p) = true := rfl
theorem noLs_pairs (ps : List (Int × Int)) : noLs (ps.map pairI) = true := noLs_all fun d hd => by
  obtain ⟨p, _, rfl⟩ := List.mem_map.mp hd
  rfl
theorem noLs_ints (ns : List Int) : noLs (ns.map .int) = true := noLs_all fun d hd => by
  obtain ⟨p, _, rfl⟩ := List.mem_map.mp hd
  rfl
theorem noL_row (r : List Nat) : noL (rowI r) = true := noLs_all fun d hd => by
  obtain ⟨p, _, rfl⟩ := List.mem_map.mp hd
  rfl
theorem noL_cod (C : Cod) : noL C.dat = true := by
  show (true && (true && (noLs (C.steps.map .int) && (noLs (C.moves.map pairI) && (true && true))))) = true
  rw [noLs_ints, noLs_pairs]
  rfl
/-- an own list through a draw -/
theorem Kp.own {m l l' : Addr} {H H' : Hp} (k : Kp m l H l' H') {p : Addr} {o : HO} (h : H p = some o) (n1 : p ≠ m) (n2 : p ≠ l) : H' p = some o ∧ p ≠ l' := ⟨k.st p o h n1 n2, k.off h n2⟩
/-- a change of an own list: for what stood ahead of it -/
theorem Kp.set {m l l' : Addr} {H H' : Hp} (k : Kp m l H l' H') {p : Addr} {o : HO} (h : H p = none) : Kp m l H l' (upd H' p o) := by
  refine ⟨fun b u hb n1 n2 => ?_, k.nw, fun b hb => ?_⟩
  · rw [upd_ne (ne_of_none hb h)]
    exact k.st b u hb n1 n2
  · unfold upd at hb
    split at hb
    · cases hb
    · exact k.dm b hb
/-- a list of one's own, apart from the drawer -/
structure Own (H : Hp) (m c l p : Addr) (xs : List V) : Prop where
  st : H p = some (.lst xs)
  nm : p ≠ m
  nc : p ≠ c
  nl : p ≠ l
theorem own_mk {H : Hp} {m c l p n : Nat} {xs : List V} (D : Dr H m c l n) (hp : H p = none) : Own (upd H p (.lst xs)) m c l p xs := by
  obtain ⟨cs, ls, z, e1, e2, e3, _⟩ := D.ex
  exact ⟨upd_same, (ne_of_none e1 hp).symm, (ne_of_none e2 hp).symm, (ne_of_none e3 hp).symm⟩
theorem Own.kp {H H' : Hp} {m c l l' p : Addr} {xs : List V} (o : Own H m c l p xs) (k : Kp m l H l' H') : Own H' m c l' p xs := ⟨k.st p _ o.st o.nm o.nl, o.nm, o.nc, k.off o.st o.nl⟩
theorem Own.same {H H' : Hp} {m c l p : Addr} {xs : List V} (o : Own H m c l p xs) (s : Same H H') : Own H' m c l p xs := ⟨s _ _ o.st, o.nm, o.nc, o.nl⟩
theorem Own.set {H : Hp} {m c l p q : Addr} {xs : List V} {u : HO} (o : Own H m c l p xs) (h : p ≠ q) : Own (upd H q u) m c l p xs := ⟨(upd_ne h).trans o.st, o.nm, o.nc, o.nl⟩
theorem Own.put {H : Hp} {m c l p : Addr} {xs ys : List V} (o : Own H m c l p xs) : Own (upd H p (.lst ys)) m c l p ys := ⟨upd_same, o.nm, o.nc, o.nl⟩
theorem Dr.put {H : Hp} {m c l n p : Nat} {xs ys : List V} (D : Dr H m c l n) (o : Own H m c l p xs) : Dr (upd H p (.lst ys)) m c l n := D.set o.nm o.nc o.nl
theorem Own.ne {H : Hp} {m c l p q : Addr} {xs : List V} (o : Own H m c l p xs) (h : H q = none) : p ≠ q := ne_of_none o.st h
theorem at3 {a b c : V} {g : Int} (h0 : 0 ≤ g) (h1 : g < 3) : ∃ v, atI [a, b, c] g = some v ∧ (v = a ∨ v = b ∨ v = c) := by
  have hg : g = 0 ∨ g = 1 ∨ g = 2 := by omega
  rcases hg with e | e | e <;> subst e
  · exact ⟨a, atI_nat (j := 0) rfl, .inl rfl⟩
  · exact ⟨b, atI_nat (j := 1) rfl, .inr (.inl rfl)⟩
  · exact ⟨c, atI_nat (j := 2) rfl, .inr (.inr rfl)⟩
theorem at4 {a b c d : V} {g : Int} (h0 : 0 ≤ g) (h1 : g < 4) : ∃ v, atI [a, b, c, d] g = some v ∧ (v = a ∨ v = b ∨ v = c ∨ v = d) := by
  have hg : g = 0 ∨ g = 1 ∨ g = 2 ∨ g = 3 := by omega
  rcases hg with e | e | e | e <;> subst e
  · exact ⟨a, atI_nat (j := 0) rfl, .inl rfl⟩
  · exact ⟨b, atI_nat (j := 1) rfl, .inr (.inl rfl)⟩
  · exact ⟨c, atI_nat (j := 2) rfl, .inr (.inr (.inl rfl))⟩
  · exact ⟨d, atI_nat (j := 3) rfl, .inr (.inr (.inr rfl))⟩
section
variable {P : Program} {w : World} {K : PySem.W.Frag} {mg : Str → Option Value} {base : Heap}
theorem yes_turn {te : TE} {σ : L2.St} {H : Hp} {Q : VK} {R : Hp → Prop} (h : te σ H Q) : tYes σ H fun b H3 => if b = true then te σ H3 Q else R H3 := by
  show if true = true then te σ H Q else R H
  rw [if_pos rfl]
  exact h
/-- n draws at most, behind which z stands for something of which G holds -/
def spDraw (args : Addr → List V → Prop) (n : Nat) (G : Hp → V → Prop) : Sp := fun vs H Q _ => ∃ (m c l : Addr) (k : Nat), args m vs ∧ Dr H m c l (k + n) ∧
  ∀ z l' H', Kp m l H l' H' → Dr H' m c l' k → G H' z → Q z H'
/-- what a drawn coder is like -/
structure Small (C : Cod) (wide places codes : Int) : Prop where
  lo : -wide ≤ C.low ∧ C.low ≤ 0
  hi : 0 ≤ C.high ∧ C.high ≤ wide
  st : 1 ≤ C.steps.length ∧ (C.steps.length : Int) ≤ places
  ss : ∀ s ∈ C.steps, 1 ≤ s ∧ s ≤ 2 * wide + 2
  mv : 2 ≤ C.moves.length ∧ (C.moves.length : Int) ≤ codes
  mm : ∀ p ∈ C.moves, (-16 ≤ p.1 ∧ p.1 ≤ 16) ∧ (-2 ≤ p.2 ∧ p.2 ≤ 2)
  fd : C.fade = 0 ∨ (2 ≤ C.fade ∧ C.fade ≤ 5)
theorem Small.ok {C : Cod} {wide places codes : Int} (h : Small C wide places codes) (h1 : wide ≤ 4000) (h2 : places ≤ 16) (h3 : codes ≤ 16) : C.Ok := by
  obtain ⟨⟨a1, a2⟩, ⟨b1, b2⟩, ⟨c1, c2⟩, d, ⟨e1, e2⟩, f, g⟩ := h
  refine ⟨by omega, a2, b1, by omega, c1, by omega, fun s hs => ?_, e1, by omega, fun p hp => ?_, by omega⟩
  · have := d s hs
    omega
  · have := f p hp
    omega
def sp_law_coder (K : PySem.W.Frag) : Sp := fun vs H Q _ => ∃ (m c l : Addr) (k : Nat) (wide places codes : Int), vs = [.ref m, .int wide, .int places, .int codes] ∧ (1 ≤ wide ∧ wide ≤ 4000) ∧ (1 ≤ places ∧ places ≤ 16) ∧ (2 ≤ codes ∧ codes ≤ 16) ∧
  Dr H m c l (k + 60) ∧ ∀ z (C : Cod) l' H', Kp m l H l' H' → Dr H' m c l' k → Small C wide places codes → Dp K H' z C.dat → Q z H'
set_option maxHeartbeats 4000000 in
theorem ok_law_coder (T : Txt K mg) : FnOk P w K mg base CX0 3 T.f__law_coder T.d__law_coder ["m", "wide", "places", "codes"] (sp_law_coder K) := by
  refine T.F__law_coder.ok sc_law_coder (fun vs H Q E h => ?_) (fun cdv A outer s H vs Q E hr h => ?_)
  · obtain ⟨m, c, l, k, wide, places, codes, rfl, _⟩ := h
    rfl
  · obtain ⟨m, c, l, k, wide, places, codes, rfl, ⟨w1, w2⟩, ⟨p1, p2⟩, ⟨c1, c2⟩, D0, q⟩ := h
    refine ⟨_,
(pss_cons (ps_par (i := 4) (j := 5) (by rfl) sc_law_coder.nd rfl rfl (by decide) rfl rfl (pa_cons (pe_op op_sub pe_int (pe_call (ok_law_next T) (hr.mono (by decide)) (by rfl) T.g__law_next T.F__law_next.kp T.b__law_next .nil pass0 (pa_cons (pv 0) (pa_cons (pe_op op_add (pv 1) pe_int) pa_nil)))) (pa_cons (pe_call (ok_law_next T) (hr.mono (by decide)) (by rfl) T.g__law_next T.F__law_next.kp T.b__law_next .nil pass0 (pa_cons (pv 0) (pa_cons (pe_op op_add (pv 1) pe_int) pa_nil))) pa_nil)) (by rfl))
      (pss_cons (ps_setLc (i := 7) (own := [("k", 6)]) rfl sc_law_coder.nd rfl rfl (sw_true rfl rfl rfl (by decide +kernel)) (pi_range1 (by rfl) T.z_range (pa_cons (pe_op op_add pe_int (pe_call (ok_law_next T) (hr.mono (by decide)) (by rfl) T.g__law_next T.F__law_next.kp T.b__law_next .nil pass0 (pa_cons (pv 0) (pa_cons (pv 2) pa_nil)))) pa_nil)) (blkOk_by (own := [("k", 6)]) (N := ["m", "wide", "places", "codes", "low", "high", "k", "steps", "moves", "fade"]) (sc := defScope s_law_coder) (by decide +kernel)) (fun _ _ _ _ _ => (pg_name (i := 6) sc_law_coder.nd rfl (Or.inl rfl))) (fun _ _ _ _ _ => pts_nil) (fun _ _ _ _ _ => (pe_op op_add pe_int (pe_call (ok_law_next T) (hr.mono (by decide)) (by rfl) T.g__law_next T.F__law_next.kp T.b__law_next .nil pass0 (pa_cons (pv 0) (pa_cons (pe_op op_add (pe_op op_mul pe_int (pv 1)) pe_int) pa_nil))))))
      (pss_cons (ps_set (i := 8) sc_law_coder.nd rfl (Or.inl rfl) (pe_lst pa_nil))
      (pss_cons (ps_for PassesOwn.never rfl (pi_range1 (by rfl) T.z_range (pa_cons (pe_op op_add pe_int (pe_call (ok_law_next T) (hr.mono (by decide)) (by rfl) T.g__law_next T.F__law_next.kp T.b__law_next .nil pass0 (pa_cons (pv 0) (pa_cons (pe_op op_sub (pv 3) pe_int) pa_nil)))) pa_nil)) (pg_name (i := 6) sc_law_coder.nd rfl (Or.inl rfl)) (pss_one (ps_expr (pe_bm PySem.F.plainAttrs_list PySem.F.slot_list_append PySem.F.type_list_append mt_append (pv 8) (pa_cons (pe_tup (pa_cons (pe_op op_sub (pe_call (ok_law_next T) (hr.mono (by decide)) (by rfl) T.g__law_next T.F__law_next.kp T.b__law_next .nil pass0 (pa_cons (pv 0) (pa_cons pe_int pa_nil))) pe_int) (pa_cons (pe_op op_sub (pe_call (ok_law_next T) (hr.mono (by decide)) (by rfl) T.g__law_next T.F__law_next.kp T.b__law_next .nil pass0 (pa_cons (pv 0) (pa_cons pe_int pa_nil))) pe_int) pa_nil))) pa_nil)))))
      (pss_cons (ps_set (i := 9) sc_law_coder.nd rfl (Or.inl rfl) (pe_ix ix_list (pe_lst (pa_cons pe_int (pa_cons pe_int (pa_cons pe_int (pa_cons (pe_op op_add pe_int (pe_call (ok_law_next T) (hr.mono (by decide)) (by rfl) T.g__law_next T.F__law_next.kp T.b__law_next .nil pass0 (pa_cons (pv 0) (pa_cons pe_int pa_nil)))) pa_nil))))) (pe_call (ok_law_next T) (hr.mono (by decide)) (by rfl) T.g__law_next T.F__law_next.kp T.b__law_next .nil pass0 (pa_cons (pv 0) (pa_cons pe_int pa_nil))) (fun _ _ => rfl)))
      (pss_one (ps_ret (pe_tup (pa_cons (pv 4) (pa_cons (pv 5) (pa_cons (pe_callTy call_tuple_of (by rfl) T.z_tuple (by decide +kernel) (pa_cons (pv 7) pa_nil)) (pa_cons (pe_callTy call_tuple_of (by rfl) T.z_tuple (by decide +kernel) (pa_cons (pv 8) pa_nil)) (pa_cons (pv 9) pa_nil)))))))))))))
, ?_⟩
    -- low, high
    refine ⟨_, rfl, _, rfl, _, _, rfl, rfl, m, c, l, k + 59, wide + 1, rfl, by omega, by omega, D0, fun a l1 H1 a0 a1 kp1 D1 => ⟨0, a, rfl, rfl, ?_⟩⟩
    refine ⟨_, rfl, _, rfl, _, _, rfl, rfl, m, c, l1, k + 58, wide + 1, rfl, by omega, by omega, D1, fun b l2 H2 b0 b1 kp2 D2 => ⟨_, _, rfl, ?_⟩⟩
    have kp12 := kp1.trans kp2
    -- steps
    refine ⟨_, rfl, _, rfl, m, c, l2, k + 57, places, rfl, by omega, by omega, D2, fun np l3 H3 n0 n1 kp3 D3 => ⟨1, np, rfl, rfl, _, rfl, by omega, by omega, fun S hS => ?_⟩⟩
    have kp13 := kp12.trans kp3
    obtain ⟨cs3, ls3, z3, e31, e32, e33, _⟩ := D3.ex
    refine lc_range (lo := 0) (n := (1 + np).toNat) (fun i H' => ∃ (l' : Addr) (ss : List Int), H' S = some (.lst (ss.map V.int)) ∧ ss.length = i ∧ (∀ s ∈ ss, 1 ≤ s ∧ s ≤ 2 * wide + 2) ∧ Kp m l3 H3 l' H' ∧ Dr H' m c l' (k + 57 - i) ∧ S ≠ m ∧ S ≠ c ∧ S ≠ l')
      ⟨l3, [], upd_same, rfl, by simp, Kp.new hS, D3.new hS, (ne_of_none e31 hS).symm, (ne_of_none e32 hS).symm, (ne_of_none e33 hS).symm⟩ ?_ ?_
    · rintro i H' hi ⟨l', ss, hL, hlen, hss, kp, D, nm, nc, nl⟩
      have hi' : i < 17 := by omega
      refine ⟨rfl, yes_turn ?_⟩
      refine ⟨_, rfl, _, rfl, 2, wide, rfl, rfl, .inl ⟨by decide, by decide⟩, _, _, rfl, rfl, m, c, l', k + 57 - (i + 1), 2 * wide + 2, rfl, by omega, by omega, by
          have e : k + 57 - (i + 1) + 1 = k + 57 - i := by omega
          rw [e]; exact D, fun r l'' H'' r0 r1 kp' D' => ⟨1, r, rfl, rfl, ?_⟩⟩
      obtain ⟨hL', nl'⟩ := kp'.own hL nm nl
      refine ⟨_, hL', ?_, l'', ss ++ [1 + r], ?_, by simp [hlen], ?_, (kp.trans kp').set hS, D'.set nm nc nl', nm, nc, nl'⟩
      · rw [List.length_map]
        exact small1000 (by omega)
      · rw [upd_same, List.map_append]
        rfl
      · intro s hs
        rcases List.mem_append.mp hs with h | h
        · exact hss s h
        · rw [List.mem_singleton.mp h]
          omega
    · rintro H4 ⟨l4, ss, hL, hlen, hss, kp4, D4, nSm, nSc, nSl⟩
      have kp14 := kp13.trans kp4
      have hSm := nSm
      have len16 : (1 + np).toNat ≤ 16 := by omega
      have D4 : Dr H4 m c l4 (k + 41) := D4.less (by omega)
      refine ⟨Nat.zero_le _, fun M hM => ?_⟩
      obtain ⟨cs4, ls4, z4, e41, e42, e43, _⟩ := D4.ex
      have nMm : M ≠ m := (ne_of_none e41 hM).symm
      have nMc : M ≠ c := (ne_of_none e42 hM).symm
      have nMl : M ≠ l4 := (ne_of_none e43 hM).symm
      have nMS : S ≠ M := ne_of_none hL hM
      have hL5 := same_new (o := .lst []) hM _ _ hL
      have kp5 : Kp m l H l4 (upd H4 M (.lst [])) := kp14.trans (Kp.new hM)
      have D5 : Dr (upd H4 M (.lst [])) m c l4 (k + 41) := D4.new hM
      have hM5 : (upd H4 M (.lst [])) M = some (.lst []) := upd_same
      have hM0 : H M = none := kp14.dm M hM
      generalize upd H4 M (.lst []) = H5 at hL5 kp5 D5 hM5
      refine ⟨_, rfl, _, rfl, _, _, rfl, rfl, m, c, l4, k + 40, codes - 1, rfl, by omega, by omega, D5, fun nm l6 H6 n60 n61 kp6 D6 => ⟨2, nm, rfl, rfl, _, rfl, by omega, by omega, ?_⟩⟩
      obtain ⟨hL6, nSl6⟩ := kp6.own hL5 nSm nSl
      obtain ⟨hM6, nMl6⟩ := kp6.own hM5 nMm nMl
      refine for_range (lo := 0) (n := (2 + nm).toNat) (fun i σ H' => ∃ (y : Option V) (l' : Addr) (ms : List V) (mvs : List (Int × Int)),
          σ = [some (.ref m), some (.int wide), some (.int places), some (.int codes), some (.int (0 - a)), some (.int b), y, some (.ref S), some (.ref M), none] ∧
          H' M = some (.lst ms) ∧ DpAll K H' ms (mvs.map pairI) ∧ mvs.length = i ∧ (∀ p ∈ mvs, (-16 ≤ p.1 ∧ p.1 ≤ 16) ∧ (-2 ≤ p.2 ∧ p.2 ≤ 2)) ∧
          H' S = some (.lst (ss.map V.int)) ∧ Kp m l H l' H' ∧ Dr H' m c l' (k + 40 - 2 * i) ∧ M ≠ l' ∧ S ≠ l')
        ⟨none, l6, [], [], rfl, hM6, .nil, rfl, by simp, hL6, kp5.trans kp6, D6, nMl6, nSl6⟩ ?_ ?_
      · rintro i σ H7 hi ⟨y, l7, ms, mvs, rfl, hM7, hD7, hlen7, hb7, hS7, kp7, D7, nMl7, nSl7⟩
        have hi' : i < 16 := by omega
        have e1 : k + 40 - 2 * i = k + 40 - 2 * (i + 1) + 2 := by omega
        rw [e1] at D7
        refine ⟨.ref M, rfl, .inl ⟨rfl, _, SqL.of hM7⟩, ?_⟩
        refine ⟨_, rfl, m, c, l7, k + 40 - 2 * (i + 1) + 1, 33, rfl, by decide, by decide, D7, fun r1 l8 H8 r10 r11 kp8 D8 => ⟨r1, 16, rfl, rfl, ?_⟩⟩
        obtain ⟨hM8, nMl8⟩ := kp8.own hM7 nMm nMl7
        obtain ⟨hS8, nSl8⟩ := kp8.own hS7 nSm nSl7
        refine ⟨_, rfl, m, c, l8, k + 40 - 2 * (i + 1), 5, rfl, by decide, by decide, D8, fun r2 l9 H9 r20 r21 kp9 D9 => ⟨r2, 2, rfl, rfl, by show 2 ≤ sizeLine; decide, fun p hp => ?_⟩⟩
        obtain ⟨hM9, nMl9⟩ := kp9.own hM8 nMm nMl8
        obtain ⟨hS9, nSl9⟩ := kp9.own hS8 nSm nSl8
        have hD9 : DpAll K H9 ms (mvs.map pairI) := dpAll_keep (keep_draw kp9 D8) _ _ (noLs_pairs _) (dpAll_keep (keep_draw kp8 D7) _ _ (noLs_pairs _) hD7)
        have sp := same_new (o := .tup [.int (r1 - 16), .int (r2 - 2)]) hp
        have hM10 := sp _ _ hM9
        have hS10 := sp _ _ hS9
        refine ⟨M, ms, _, rfl, rfl, hM10, ?_, ?_⟩
        · rw [dpAll_len hD7, List.length_map, hlen7]
          exact small1000 (by omega)
        · refine ⟨_, l9, ms ++ [.ref p], mvs ++ [(r1 - 16, r2 - 2)], rfl, upd_same, ?_, by simp [hlen7], ?_, (upd_ne nMS).trans hS10, (((kp7.trans kp8).trans kp9).trans (Kp.new hp)).set hM0, (D9.new hp).set nMm nMc nMl9, nMl9, nSl9⟩
          · rw [List.map_append]
            exact dpAll_app (pairs_set hM10 (dpAll_same sp _ _ hD9)) (.cons (dp_mkpair (s := (r1 - 16, r2 - 2)) (sqt_set hM10 upd_tup)) .nil)
          · intro x hx
            rcases List.mem_append.mp hx with h | h
            · exact hb7 x h
            · rw [List.mem_singleton.mp h]
              exact ⟨⟨by show -16 ≤ r1 - 16; omega, by show r1 - 16 ≤ 16; omega⟩, by show -2 ≤ r2 - 2; omega, by show r2 - 2 ≤ 2; omega⟩
      · rintro σ H7 ⟨y, l7, ms, mvs, rfl, hM7, hD7, hlen7, hb7, hS7, kp7, D7, nMl7, nSl7⟩
        have D7 : Dr H7 m c l7 (k + 2) := D7.less (by omega)
        -- fade
        refine ⟨_, rfl, m, c, l7, k + 1, 4, rfl, by decide, by decide, D7, fun f l8 H8 f0 f1 kp8 D8 => ⟨2, f, rfl, rfl, by show 4 ≤ sizeLine; decide, fun L hL8 => ?_⟩⟩
        obtain ⟨hM8, nMl8⟩ := kp8.own hM7 nMm nMl7
        obtain ⟨hS8, nSl8⟩ := kp8.own hS7 nSm nSl7
        have hD8 : DpAll K H8 ms (mvs.map pairI) := dpAll_keep (keep_draw kp8 D7) _ _ (noLs_pairs _) hD7
        obtain ⟨cs8, ls8, z8, e81, e82, e83, _⟩ := D8.ex
        have nLm : L ≠ m := (ne_of_none e81 hL8).symm
        have nLl : L ≠ l8 := (ne_of_none e83 hL8).symm
        have sL := same_new (o := .lst [V.int 0, V.int 0, V.int 2, V.int (2 + f)]) hL8
        have D9 : Dr (upd H8 L (.lst [V.int 0, V.int 0, V.int 2, V.int (2 + f)])) m c l8 (k + 1) := D8.new hL8
        have hL9 : (upd H8 L (.lst [V.int 0, V.int 0, V.int 2, V.int (2 + f)])) L = some (.lst [V.int 0, V.int 0, V.int 2, V.int (2 + f)]) := upd_same
        have kp9 : Kp m l H l8 (upd H8 L (.lst [V.int 0, V.int 0, V.int 2, V.int (2 + f)])) := (kp7.trans kp8).trans (Kp.new hL8)
        have hM9 := sL _ _ hM8
        have hS9 := sL _ _ hS8
        have hD9 := dpAll_same sL _ _ hD8
        generalize upd H8 L (.lst [V.int 0, V.int 0, V.int 2, V.int (2 + f)]) = H9 at sL D9 hL9 kp9 hM9 hS9 hD9
        refine ⟨_, rfl, m, c, l8, k, 4, rfl, by decide, by decide, D9, fun g l10 H10 g0 g1 kp10 D10 => ?_⟩
        obtain ⟨hL10, _⟩ := kp10.own hL9 nLm nLl
        obtain ⟨hM10, nMl10⟩ := kp10.own hM9 nMm nMl8
        obtain ⟨hS10, nSl10⟩ := kp10.own hS9 nSm nSl8
        have hD10 : DpAll K H10 ms (mvs.map pairI) := dpAll_keep (keep_draw kp10 D9) _ _ (noLs_pairs _) hD9
        obtain ⟨fd, hfd, hat⟩ : ∃ fd : Int, (fd = 0 ∨ (2 ≤ fd ∧ fd ≤ 5)) ∧ atI [V.int 0, V.int 0, V.int 2, V.int (2 + f)] g = some (.int fd) := by
          have hg : g = 0 ∨ g = 1 ∨ g = 2 ∨ g = 3 := by omega
          rcases hg with e | e | e | e <;> subst e
          · exact ⟨0, .inl rfl, atI_nat (j := 0) rfl⟩
          · exact ⟨0, .inl rfl, atI_nat (j := 1) rfl⟩
          · exact ⟨2, .inr ⟨by omega, by omega⟩, atI_nat (j := 2) rfl⟩
          · exact ⟨2 + f, .inr ⟨by omega, by omega⟩, atI_nat (j := 3) rfl⟩
        refine ⟨L, _, g, .int fd, rfl, rfl, SqL.of hL10, hat, ?_⟩
        -- the tuple
        refine ⟨_, rfl, _, rfl, .ref S, rfl, S, _, rfl, .inl ⟨SqL.of hS10, fun ts hts => ?_⟩⟩
        have s11 := same_new (o := .tup (ss.map V.int)) hts
        have hM11 := s11 _ _ hM10
        have t11 : (upd H10 ts (.tup (ss.map V.int))) ts = some (.tup (ss.map V.int)) := upd_same
        have hD11 := dpAll_same s11 _ _ hD10
        have kp11 : Kp m l H l10 (upd H10 ts (.tup (ss.map V.int))) := (kp9.trans kp10).trans (Kp.new hts)
        have D11 : Dr (upd H10 ts (.tup (ss.map V.int))) m c l10 k := D10.new hts
        generalize upd H10 ts (.tup (ss.map V.int)) = H11 at hM11 t11 hD11 kp11 D11
        refine ⟨.ref M, rfl, M, _, rfl, .inl ⟨SqL.of hM11, fun tm htm => ?_⟩⟩
        have s12 := same_new (o := .tup ms) htm
        have t12 := s12 _ _ t11
        have m12 : (upd H11 tm (.tup ms)) tm = some (.tup ms) := upd_same
        have hD12 := dpAll_same s12 _ _ hD11
        have kp12' : Kp m l H l10 (upd H11 tm (.tup ms)) := kp11.trans (Kp.new htm)
        have D12 : Dr (upd H11 tm (.tup ms)) m c l10 k := D11.new htm
        generalize upd H11 tm (.tup ms) = H12 at t12 m12 hD12 kp12' D12
        refine ⟨_, rfl, by show 5 ≤ sizeLine; decide, fun p hp => ?_⟩
        have s13 := same_new (o := .tup [V.int (0 - a), V.int b, V.ref ts, V.ref tm, V.int fd]) hp
        refine q _ ⟨0 - a, b, ss, mvs, fd⟩ l10 _ (kp12'.trans (Kp.new hp)) (D12.new hp) ⟨⟨by show -wide ≤ 0 - a; omega, by show 0 - a ≤ 0; omega⟩, ⟨b0, by show b ≤ wide; omega⟩, ⟨by show 1 ≤ ss.length; omega, by show (ss.length : Int) ≤ places; omega⟩, hss, ⟨by show 2 ≤ mvs.length; omega, by show (mvs.length : Int) ≤ codes; omega⟩, hb7, hfd⟩ ?_
        refine .tup upd_tup (.cons (.int _) (.cons (.int _) (.cons ?_ (.cons ?_ (.cons (.int _) .nil)))))
        · exact dp_tints (.inl (.inl (s13 _ _ t12)))
        · exact .tup (.inl (.inl (s13 _ _ m12))) (dpAll_same s13 _ _ hD12)
end
end My

namespace My
open PySem PySem.Spec PyProof.Rows L2
/-! ### the size of what is written out -/
structure Sh (k n : Nat) (d : PyData) : Prop where
  sh : d.showable = true
  nd : d.hasDict = false
  dp : d.depth ≤ k
  le : d.shown.length ≤ n
theorem Sh.mono {k n k' n' : Nat} {d : PyData} (h : Sh k n d) (h1 : k ≤ k') (h2 : n ≤ n') : Sh k' n' d := ⟨h.sh, h.nd, Nat.le_trans h.dp h1, Nat.le_trans h.le h2⟩
theorem sh_int {i : Int} (h : i.natAbs < 2 ^ 64) : Sh 0 1921 (.int i) := by
  have hl : i.natAbs.log2 < 1920 := Nat.lt_trans (PySem.Flt.log2_lt_of (by decide) h) (by decide)
  exact ⟨decide_eq_true hl, rfl, Nat.le_refl _, int_text_len_1921 hl⟩
theorem sh_all {k n : Nat} : ∀ {ds : List PyData}, (∀ d ∈ ds, Sh k n d) → PyData.showableAll ds = true ∧ PyData.hasDictAll ds = false ∧ PyData.depthAll ds ≤ k ∧ piled (PyData.shownAll ds) ≤ ds.length * (n + 2) ∧ (PyData.shownAll ds).length = ds.length
  | [], _ => ⟨rfl, rfl, Nat.zero_le _, Nat.zero_le _, rfl⟩
  | d :: r, h => by
    obtain ⟨h1, h2, h3, h4, h5⟩ := sh_all fun e he => h e (List.mem_cons_of_mem d he)
    have hd := h d List.mem_cons_self
    refine ⟨?_, ?_, ?_, ?_, ?_⟩
    · show (d.showable && PyData.showableAll r) = true
      rw [hd.sh, h1]
      rfl
    · show (d.hasDict || PyData.hasDictAll r) = false
      rw [hd.nd, h2]
      rfl
    · show max d.depth (PyData.depthAll r) ≤ k
      exact Nat.max_le.mpr ⟨hd.dp, h3⟩
    · show piled (d.shown :: PyData.shownAll r) ≤ (r.length + 1) * (n + 2)
      rw [piled_cons, Nat.succ_mul]
      have := hd.le
      omega
    · show (PyData.shownAll r).length + 1 = r.length + 1
      rw [h5]
theorem sh_tup {k n : Nat} {ds : List PyData} (h : ∀ d ∈ ds, Sh k n d) : Sh (k + 1) (ds.length * (n + 2) + 3) (.tuple ds) := by
  obtain ⟨h1, h2, h3, h4, h5⟩ := sh_all h
  refine ⟨h1, h2, Nat.succ_le_succ h3, ?_⟩
  show (tupleText (PyData.shownAll ds)).length ≤ _
  unfold tupleText
  rw [strLen_append, strLen_append]
  have e1 : ((("(" : String) : Str)).length = 1 := rfl
  have e3 : (((if (PyData.shownAll ds).length == 1 then ",)" else ")" : String) : Str)).length ≤ 2 := by split <;> decide
  rw [e1]
  by_cases hn : PyData.shownAll ds = []
  · rw [hn] at e3 ⊢
    have : (Str.join ", " []).length = 0 := rfl
    omega
  · have := join_length_add (PyData.shownAll ds) hn
    omega
theorem sh_list2 {k n : Nat} {a b : PyData} (h1 : Sh k n a) (h2 : Sh k n b) : Sh (k + 1) (2 * n + 4) (.list [a, b]) := by
  refine ⟨?_, ?_, ?_, ?_⟩
  · show (a.showable && (b.showable && true)) = true
    rw [h1.sh, h2.sh]
    rfl
  · show (a.hasDict || (b.hasDict || false)) = false
    rw [h1.nd, h2.nd]
    rfl
  · show max a.depth (max b.depth 0) + 1 ≤ k + 1
    have := h1.dp
    have := h2.dp
    omega
  · show (listText [a.shown, b.shown]).length ≤ _
    have e : listText [a.shown, b.shown] = (((((Str.ofString "[" ++ Str.ofString "") ++ a.shown) ++ Str.ofString ", ") ++ b.shown) ++ Str.ofString "]") := rfl
    rw [e, strLen_append, strLen_append, strLen_append, strLen_append, strLen_append]
    have e0 : (Str.ofString "").length = 0 := by decide
    have e1 : (Str.ofString "[").length = 1 := by decide
    have e2 : (Str.ofString "]").length = 1 := by decide
    have e3 : (Str.ofString ", ").length = 2 := by decide
    have := h1.le
    have := h2.le
    omega
theorem sh_ints {ns : List Int} (h : ∀ z ∈ ns, z.natAbs < 2 ^ 64) : Sh 1 (ns.length * 1923 + 3) (.tuple (ns.map .int)) := by
  have := sh_tup (k := 0) (n := 1921) (ds := ns.map .int) fun d hd => by
    obtain ⟨z, hz, rfl⟩ := List.mem_map.mp hd
    exact sh_int (h z hz)
  rw [List.length_map] at this
  exact this
theorem sh_pair {s : Int × Int} (h1 : s.1.natAbs < 2 ^ 64) (h2 : s.2.natAbs < 2 ^ 64) : Sh 1 4000 (pairI s) :=
  (sh_tup (k := 0) (n := 1921) (ds := [.int s.1, .int s.2]) fun d hd => by
    rcases List.mem_cons.mp hd with e | e
    · rw [e]; exact sh_int h1
    · rw [List.mem_singleton.mp e]; exact sh_int h2).mono (Nat.le_refl _) (by simp)
theorem sz_line {n : Nat} (h : n ≤ 1000000) : n ≤ sizeLine := Nat.le_trans h (by decide)
/-! ### slices and sums of tuples -/
theorem cut_take {xs : List V} {n : Nat} (h : n ≤ xs.length) : cutV xs none (some (n : Int)) = xs.take n := by
  unfold cutV
  rw [HT.sIx_none, HT.sIx_nat, Nat.min_eq_left h]
  rfl
theorem cut_drop {xs : List V} {n : Nat} (h : n ≤ xs.length) : cutV xs (some (n : Int)) none = xs.drop n := by
  unfold cutV
  rw [HT.sIx_none, HT.sIx_nat, Nat.min_eq_left h]
  exact List.take_of_length_le (by simp)
theorem dp_row {K : PySem.W.Frag} {H : Hp} {a : Addr} {r : List Nat} (h : SqT K H a (rowV r)) : Dp K H (.ref a) (rowI r) := by
  refine .tup h ?_
  clear h
  induction r with
  | nil => exact .nil
  | cons n r ih => exact .cons (.int n) ih
theorem sl_take {K : PySem.W.Frag} {H : Hp} {a : Addr} {r : List Nat} {n : Nat} {Q : VK} (h : SqT K H a (rowV r)) (hn : n ≤ r.length) (k : ∀ v H', Same H H' → Dp K H' v (rowI (r.take n)) → Q v H') :
    rSlA K (.ref a) none (some (n : Int)) H Q := by
  have hl : (rowV r).length = r.length := List.length_map ..
  refine ⟨a, rowV r, rfl, h, fun ⟨_, e⟩ => ?_, fun _ p hp => ?_⟩
  · rw [HT.sIx_nat, hl, Nat.min_eq_left hn] at e
    refine k _ H (Same.refl H) ?_
    rw [e, List.take_length]
    exact dp_row h
  · refine k _ _ (same_new hp) ?_
    rw [cut_take (by omega), show (rowV r).take n = rowV (r.take n) from List.map_take.symm]
    exact dp_row upd_tup
theorem sl_drop {K : PySem.W.Frag} {H : Hp} {a : Addr} {r : List Nat} {n : Nat} {Q : VK} (h : SqT K H a (rowV r)) (hn : n ≤ r.length) (k : ∀ v H', Same H H' → Dp K H' v (rowI (r.drop n)) → Q v H') :
    rSlA K (.ref a) (some (n : Int)) none H Q := by
  have hl : (rowV r).length = r.length := List.length_map ..
  refine ⟨a, rowV r, rfl, h, fun ⟨e, _⟩ => ?_, fun _ p hp => ?_⟩
  · rw [HT.sIx_nat, hl, Nat.min_eq_left hn] at e
    refine k _ H (Same.refl H) ?_
    rw [e]
    exact dp_row h
  · refine k _ _ (same_new hp) ?_
    rw [cut_drop (by omega), show (rowV r).drop n = rowV (r.drop n) from List.map_drop.symm]
    exact dp_row upd_tup
theorem cat_ints {K : PySem.W.Frag} {H : Hp} {a b : Addr} {ns ms : List Int} {Q : VK} (ha : SqT K H a (ns.map V.int)) (hb : SqT K H b (ms.map V.int)) (hl : ns.length + ms.length ≤ sizeLine)
    (k : ∀ v H', Same H H' → Dp K H' v (.tuple ((ns ++ ms).map .int)) → Q v H') : rCatA K (.ref a) (.ref b) H Q := by
  refine ⟨a, b, _, _, rfl, rfl, ha, hb, by rw [List.length_map, List.length_map]; exact hl, fun e => ?_, fun _ e => ?_, fun _ _ p hp => ?_⟩
  · have e' : ns = [] := List.map_eq_nil_iff.mp e
    refine k _ H (Same.refl H) ?_
    rw [e']
    exact dp_tints hb
  · have e' : ms = [] := List.map_eq_nil_iff.mp e
    refine k _ H (Same.refl H) ?_
    rw [e', List.append_nil]
    exact dp_tints ha
  · refine k _ _ (same_new hp) (dp_tints ?_)
    rw [List.map_append]
    exact upd_tup
theorem dp_last {K : PySem.W.Frag} {H : Hp} {xs : List V} {ps : List (Int × Int)} {s : Int × Int} (h : DpAll K H xs ((ps ++ [s]).map pairI)) : ∃ ys z, xs = ys ++ [z] ∧ Dp K H z (pairI s) := by
  have hl := dpAll_len h
  have hne : xs ≠ [] := by
    intro e
    rw [e] at hl
    simp at hl
  obtain ⟨z, hz, hd⟩ := dpAll_get' h (i := ps.length) (d := pairI s) (by rw [List.map_append, List.getElem?_append_right (by simp)]; simp)
  refine ⟨xs.dropLast, z, ?_, hd⟩
  have hxl : xs.length = ps.length + 1 := by rw [hl]; simp
  have : xs.getLast hne = z := by
    rw [List.getLast_eq_getElem]
    have e : xs[xs.length - 1]? = some z := by rw [hxl]; exact hz
    exact (List.getElem?_eq_some_iff.mp e).2
  rw [← this]
  exact (List.dropLast_concat_getLast hne).symm
/-- repr(..) of data that is small -/
theorem rr {K : PySem.W.Frag} {H : Hp} {v : V} {d : PyData} {k n : Nat} {Q : VK} (h : Dp K H v d) (s : Sh k n d) (hk : k ≤ 60) (hn : n ≤ 1000000) (q : Q (.str d.shown) H) : rRepr K [v] H Q :=
  ⟨v, d, rfl, h, s.sh, s.nd, Nat.le_trans s.dp hk, sz_line (Nat.le_trans s.le hn), q⟩
/-- x != y of equal texts -/
theorem ne_same {x : Str} {A B : Hp → Prop} {H : Hp} (q : B H) : rNe (.str x) (.str x) H fun v H' => ∃ c, v = .bl c ∧ if c = true then A H' else B H' := by
  refine ⟨rfl, false, ?_, iteF q⟩
  show V.bl (!decide (V.str x = V.str x)) = V.bl false
  rw [decide_eq_true rfl]
  rfl
theorem eq_same {x : Str} {H : Hp} {Q : VK} (q : Q (.bl true) H) : rEq (.str x) (.str x) H Q := by
  refine ⟨rfl, ?_⟩
  rw [decide_eq_true rfl]
  exact q
section
variable {P : Program} {w : World} {K : PySem.W.Frag} {mg : Str → Option Value} {base : Heap}
def sp_law_some_state (K : PySem.W.Frag) : Sp := fun vs H Q _ => ∃ (m c l : Addr) (k : Nat) (x : V) (C : Cod), vs = [.ref m, x] ∧ C.Ok ∧ Dp K H x C.dat ∧ Dr H m c l (k + 2) ∧
  ∀ z s l' H', Kp m l H l' H' → Dr H' m c l' k → C.St s → Dp K H' z (pairI s) → Q z H'
theorem ok_law_some_state (T : Txt K mg) : FnOk P w K mg base CX0 3 T.f__law_some_state T.d__law_some_state ["m", "coder"] (sp_law_some_state K) := by
  refine T.F__law_some_state.ok sc_law_some_state (fun vs H Q E h => ?_) (fun cdv A outer s H vs Q E hr h => ?_)
  · obtain ⟨m, c, l, k, x, C, rfl, _⟩ := h
    rfl
  · obtain ⟨m, c, l, k, x, C, rfl, O, hc, D, q⟩ := h
    obtain ⟨a, s, mm, ms, rfl, ha, hs, hm, hmd⟩ := cod_at hc
    have := O.l1
    have := O.l2
    have := O.h1
    have := O.h2
    have := O.s1
    have := O.s2
    refine ⟨_,
(pss_one (ps_ret (pe_tup (pa_cons (pe_op op_add (pe_ix ix_tup (pv 1) pe_int (fun _ _ => rfl)) (pe_call (ok_law_next T) (hr.mono (by decide)) (by rfl) T.g__law_next T.F__law_next.kp T.b__law_next .nil pass0 (pa_cons (pv 0) (pa_cons (pe_op op_add (pe_op op_sub (pe_ix ix_tup (pv 1) pe_int (fun _ _ => rfl)) (pe_ix ix_tup (pv 1) pe_int (fun _ _ => rfl))) pe_int) pa_nil)))) (pa_cons (pe_call (ok_law_next T) (hr.mono (by decide)) (by rfl) T.g__law_next T.F__law_next.kp T.b__law_next .nil pass0 (pa_cons (pv 0) (pa_cons (pe_callB (call_len_seq) (by rfl) T.z_len (by decide +kernel) (pa_cons (pe_ix ix_tup (pv 1) pe_int (fun _ _ => rfl)) pa_nil)) pa_nil))) pa_nil)))))
, ?_⟩
    refine ⟨_, rfl, a, _, 0, _, rfl, rfl, ha, atI_nat (j := 0) rfl, ?_⟩
    refine ⟨_, rfl, _, rfl, a, _, 1, _, rfl, rfl, ha, atI_nat (j := 1) rfl, _, rfl, a, _, 0, _, rfl, rfl, ha, atI_nat (j := 0) rfl, C.high, C.low, rfl, rfl, _, _, rfl, rfl, m, c, l, k + 1, C.high - C.low + 1, rfl, by omega, by omega, D,
      fun r l1 H1 r0 r1 kp1 D1 => ⟨C.low, r, rfl, rfl, ?_⟩⟩
    have K1 := keep_draw kp1 D
    refine ⟨_, rfl, _, rfl, a, _, 2, _, rfl, rfl, K1.tup ha, atI_nat (j := 2) rfl, s, _, rfl, .inr (K1.tup hs), m, c, l1, k, ((C.steps.map V.int).length : Int), rfl, ?_, ?_, D1, fun p l2 H2 p0 p1 kp2 D2 => ⟨by show 2 ≤ sizeLine; decide, fun z hz => ?_⟩⟩
    · rw [List.length_map]; omega
    · rw [List.length_map]; omega
    rw [List.length_map] at p1
    exact q _ (C.low + r, p) l2 _ ((kp1.trans kp2).trans (Kp.new hz)) (D2.new hz) ⟨by show C.low ≤ C.low + r; omega, by show C.low + r ≤ C.high; omega, p0, p1⟩ (dp_mkpair upd_tup)
end
section
variable {P : Program} {w : World} {K : PySem.W.Frag} {mg : Str → Option Value} {base : Heap}
def sp_law_row (K : PySem.W.Frag) : Sp := fun vs H Q _ => ∃ (m c l : Addr) (k : Nat) (x : V) (C : Cod) (many : Nat), vs = [.ref m, x, .int many] ∧ many ≤ 900 ∧ C.Ok ∧ Dp K H x C.dat ∧ Dr H m c l (k + many + 1) ∧
  ∀ z row l' H', Kp m l H l' H' → Dr H' m c l' k → C.Row row → row.length ≤ many → Dp K H' z (rowI row) → Q z H'
theorem ok_law_row (T : Txt K mg) : FnOk P w K mg base CX0 3 T.f__law_row T.d__law_row ["m", "coder", "many"] (sp_law_row K) := by
  refine T.F__law_row.ok sc_law_row (fun vs H Q E h => ?_) (fun cdv A outer s H vs Q E hr h => ?_)
  · obtain ⟨m, c, l, k, x, C, many, rfl, _⟩ := h
    rfl
  · obtain ⟨m, c, l, k, x, C, many, rfl, hmany, O, hc, D, q⟩ := h
    obtain ⟨a, s, mm, ms, rfl, ha, hs, hm, hmd⟩ := cod_at hc
    have := O.m1
    have := O.m2
    refine ⟨_,
(pss_one (ps_ret (pe_callTy call_tuple_of (by rfl) T.z_tuple (by decide +kernel) (pa_cons (pe_lc (own := [("k", 3)]) rfl sc_law_row.nd (pi_range1 (by rfl) T.z_range (pa_cons (pe_call (ok_law_next T) (hr.mono (by decide)) (by rfl) T.g__law_next T.F__law_next.kp T.b__law_next .nil pass0 (pa_cons (pv 0) (pa_cons (pe_op op_add (pv 2) pe_int) pa_nil))) pa_nil)) (blkOk_by (own := [("k", 3)]) (N := ["m", "coder", "many", "k"]) (sc := defScope s_law_row) (by decide +kernel)) (fun _ _ _ _ _ => (pg_name (i := 3) sc_law_row.nd rfl (Or.inl rfl))) (fun _ _ _ _ _ => pts_nil) (fun _ _ _ _ _ => (pe_call (ok_law_next T) (hr.mono (by decide)) (by rfl) T.g__law_next T.F__law_next.kp T.b__law_next .nil pass0 (pa_cons (pv 0) (pa_cons (pe_callB (My.call_lenK (K := K)) (by rfl) T.z_len (by decide +kernel) (pa_cons (pe_ix (My.ix_tupK (K := K)) (pv 1) pe_int (fun _ _ => rfl)) pa_nil)) pa_nil))))) pa_nil))))
, ?_⟩
    refine ⟨_, rfl, _, rfl, _, _, rfl, rfl, m, c, l, k + many, (many : Int) + 1, rfl, by omega, by omega, D, fun n l1 H1 n0 n1 kp1 D1 => ⟨n, rfl, by omega, by omega, fun S hS => ?_⟩⟩
    have K1 := keep_draw kp1 D
    obtain ⟨cs3, ls3, z3, e31, e32, e33, _⟩ := D1.ex
    have hml : ms.length = C.moves.length := by rw [dpAll_len hmd, List.length_map]
    refine lc_range (lo := 0) (n := n.toNat) (fun i H' => ∃ (l' : Addr) (rs : List Nat), H' S = some (.lst (rowV rs)) ∧ rs.length = i ∧ (∀ r ∈ rs, r < C.moves.length) ∧ Kp m l1 H1 l' H' ∧ Keep H1 H' ∧ Dr H' m c l' (k + many - i) ∧ S ≠ m ∧ S ≠ c ∧ S ≠ l')
      ⟨l1, [], upd_same, rfl, by simp, Kp.new hS, keep_same (same_new hS), D1.new hS, (ne_of_none e31 hS).symm, (ne_of_none e32 hS).symm, (ne_of_none e33 hS).symm⟩ ?_ ?_
    · rintro i H' hi ⟨l', rs, hL, hlen, hrs, kp, kk, D2, nm, nc, nl⟩
      refine ⟨rfl, yes_turn ?_⟩
      have kt := K1.trans kk
      refine ⟨_, rfl, _, rfl, a, _, 3, _, rfl, rfl, kt.tup ha, atI_nat (j := 3) rfl, mm, _, rfl, .inr (kt.tup hm), m, c, l', k + many - (i + 1), (ms.length : Int), rfl, by omega, by omega, ?_, fun r l'' H'' r0 r1 kp' D' => ?_⟩
      · have e : k + many - (i + 1) + 1 = k + many - i := by omega
        rw [e]
        exact D2
      obtain ⟨hL', nl'⟩ := kp'.own hL nm nl
      refine ⟨_, hL', ?_, l'', rs ++ [r.toNat], ?_, by simp [hlen], ?_, (kp.trans kp').set hS, (kk.trans (keep_draw kp' D2)).trans (keep_set hL'), D'.set nm nc nl', nm, nc, nl'⟩
      · show (rs.map _).length < _
        rw [List.length_map]
        exact small1000 (by omega)
      · rw [upd_same]
        unfold rowV
        rw [List.map_append]
        have e : r = ((r.toNat : Nat) : Int) := by omega
        show _ = some (HO.lst (_ ++ [V.int ((r.toNat : Nat) : Int)]))
        rw [← e]
      · intro z hz
        rcases List.mem_append.mp hz with h | h
        · exact hrs z h
        · rw [List.mem_singleton.mp h]
          omega
    · rintro H4 ⟨l4, rs, hL, hlen, hrs, kp4, kk, D4, nm, nc, nl⟩
      refine ⟨S, _, rfl, .inl ⟨SqL.of hL, fun t ht => ?_⟩⟩
      exact q _ rs l4 _ ((kp1.trans kp4).trans (Kp.new ht)) ((D4.less (by omega)).new ht) ⟨by omega, hrs⟩ (by omega) (dp_row upd_tup)
end
end My

namespace My
open PySem PySem.Spec PyProof.Rows L2
theorem lim_of {n lo hi : Int} (h : lo ≤ hi) : (if (if hi < n then hi else n) > lo then (if hi < n then hi else n) else lo) = lim n lo hi := by
  unfold lim
  split <;> split <;> split <;> omega
section
variable {P : Program} {w : World} {K : PySem.W.Frag} {mg : Str → Option Value} {base : Heap}
theorem okD0 {x qual : Str} {params : Arguments} {body : List Stmt} {scope : Scope} {dvs : List V} {f : Addr} {fd : FuncData} {N ps : List Str} {k : Nat} {sp : Sp}
    (F : ∃ q : Addr, FunD K x qual params body scope dvs [("state", V.ref q)] f fd) (S : FnScope N ps scope) (len : ∀ vs H Q E, sp vs H Q E → vs.length = ps.length)
    (hbody : ∀ (cdv : Value) (A : Around) (outer : List Env) (s : Shared) (H : Hp) (vs : List V) (Q : VK) (E : XK), Room k (A.deeper (envOfC qual scope s.heap.objs.size f cdv)) → sp vs H Q E →
      ∃ t, PSs (cxOf CX0 P w K mg base N qual scope f cdv A outer s H E).nox body t ∧ t { nx := fun _ H' => Q .non H', rt := Q } (start N vs) H) : FnOk P w K mg base CX0 (k + 1) f fd ps sp := by
  obtain ⟨q, F⟩ := F
  refine F.ok S len fun cdv A outer s H vs Q E hr h => ?_
  obtain ⟨t, ht, hq⟩ := hbody cdv A outer s H vs Q E hr h
  exact ⟨t, ht.nox, hq⟩
def sp_rounded : Sp := fun vs H Q _ => ∃ (n d : Int), vs = [.int n, .int d] ∧ 0 < d ∧ d < 1000 ∧ Q (.int (rnd n d)) H
theorem ok_rounded (T : Txt K mg) : FnOk P w K mg base CX0 2 T.f_rounded T.d_rounded ["number", "divisor"] sp_rounded := by
  refine T.F_rounded.ok sc_rounded (fun vs H Q E h => ?_) (fun cdv A outer s H vs Q E hr h => ?_)
  · obtain ⟨n, d, rfl, _⟩ := h
    rfl
  · obtain ⟨n, d, rfl, h1, h2, q⟩ := h
    have q' : ∀ z, rnd n d = z → Q (.int z) H := fun z e => e ▸ q
    refine ⟨_,
(pss_cons (ps_if (pt_cmpR op_lt (pv 0) pe_int (nomark _)) (pss_one (ps_ret (pe_un un_neg (pe_op op_fdivN (pe_un un_neg (pv 0)) (pv 1))))) pss_nil)
      (pss_one (ps_ret (pe_op op_fdivN (pv 0) (pv 1)))))
, ?_⟩
    refine ⟨_, rfl, n, 0, rfl, rfl, _, rfl, ?_⟩
    refine ite2 (fun e => ?_) (fun e => ?_)
    · have e := of_decide_eq_true e
      refine ⟨_, rfl, n, rfl, _, rfl, -n, d, rfl, rfl, ⟨by omega, by omega⟩, _, rfl, q' _ ?_⟩
      unfold rnd
      rw [if_pos e]
    · have e : ¬ n < 0 := fun z => e (decide_eq_true z)
      refine ⟨_, rfl, _, rfl, n, d, rfl, rfl, ⟨by omega, by omega⟩, q' _ ?_⟩
      unfold rnd
      rw [if_neg e]
def sp_limited : Sp := fun vs H Q _ => ∃ (n lo hi : Int), vs = [.int n, .int lo, .int hi] ∧ lo ≤ hi ∧ Q (.int (lim n lo hi)) H
theorem ok_limited (T : Txt K mg) : FnOk P w K mg base CX0 2 T.f_limited T.d_limited ["number", "least", "most"] sp_limited := by
  refine T.F_limited.ok sc_limited (fun vs H Q E h => ?_) (fun cdv A outer s H vs Q E hr h => ?_)
  · obtain ⟨n, lo, hi, rfl, _⟩ := h
    rfl
  · obtain ⟨n, lo, hi, rfl, h1, q⟩ := h
    refine ⟨_,
(pss_one (ps_ret (pe_callB (call_max2 rfl) (by rfl) T.z_max (by decide +kernel) (pa_cons (pv 1) (pa_cons (pe_callB (call_min2 rfl) (by rfl) T.z_min (by decide +kernel) (pa_cons (pv 0) (pa_cons (pv 2) pa_nil))) pa_nil)))))
, ?_⟩
    refine ⟨_, rfl, _, rfl, _, rfl, n, hi, rfl, lo, _, rfl, ?_⟩
    have e := lim_of (n := n) h1
    show Q (.int (if (if hi < n then hi else n) > lo then (if hi < n then hi else n) else lo)) H
    rw [e]
    exact q
def sp_change_at (K : PySem.W.Frag) : Sp := fun vs H Q _ => ∃ (c : V) (C : Cod) (k p : Nat), vs = [c, .int k, .int p] ∧ C.Ok ∧ Dp K H c C.dat ∧ k < C.moves.length ∧ p < C.steps.length ∧ Q (.int (C.chg k p)) H
theorem ok_change_at (T : Txt K mg) : FnOk P w K mg base CX0 3 T.f_change_at T.d_change_at ["coder", "code", "place"] (sp_change_at K) := by
  refine T.F_change_at.ok sc_change_at (fun vs H Q E h => ?_) (fun cdv A outer s H vs Q E hr h => ?_)
  · obtain ⟨c, C, k, p, rfl, _⟩ := h
    rfl
  · obtain ⟨c, C, k, p, rfl, O, hc, hk, hp, q⟩ := h
    obtain ⟨a, s, m, ms, rfl, ha, hs, hm, hmd⟩ := cod_at hc
    obtain ⟨t, ht, hT⟩ := move_at hmd hk
    refine ⟨_,
(pss_cons (ps_set (i := 3) sc_change_at.nd rfl (Or.inl rfl) (pe_ix ix_tup (pe_ix ix_tup (pe_ix ix_tup (pv 0) pe_int (fun _ _ => rfl)) (pv 1) (fun _ _ => rfl)) pe_int (fun _ _ => rfl)))
      (pss_one (ps_ret (pe_call (ok_rounded T) (hr.mono (by decide)) (by rfl) T.g_rounded T.F_rounded.kp T.b_rounded .nil pass0 (pa_cons (pe_op op_mul (pv 3) (pe_ix ix_tup (pe_ix ix_tup (pv 0) pe_int (fun _ _ => rfl)) (pv 2) (fun _ _ => rfl))) (pa_cons pe_int pa_nil))))))
, ?_⟩
    refine ⟨_, rfl, a, _, 3, _, rfl, rfl, ha, atI_nat (j := 3) rfl, _, rfl, m, _, k, _, rfl, rfl, hm, atI_nat ht, t, _, 0, _, rfl, rfl, hT, atI_nat (j := 0) rfl, ?_⟩
    refine ⟨_, rfl, _, rfl, a, _, 2, _, rfl, rfl, ha, atI_nat (j := 2) rfl, _, rfl, s, _, p, _, rfl, rfl, hs, atI_nat (step_at hp), _, _, rfl, rfl, ?_, ?_⟩
    · have hm3 : (C.moves.getD k (0, 0)) ∈ C.moves := by
        rw [List.getD_eq_getElem?_getD, List.getElem?_eq_getElem hk]
        exact List.getElem_mem hk
      have := O.m3 _ hm3
      exact .inl ⟨by omega, by omega⟩
    exact ⟨_, 8, rfl, by decide, by decide, q⟩
def sp_faded : Sp := fun vs H Q _ => ∃ (l f : Int), vs = [.int l, .int f] ∧ (f = 0 ∨ (2 ≤ f ∧ f ≤ 99)) ∧ Q (.int (fdd l f)) H
theorem ok_faded (T : Txt K mg) : FnOk P w K mg base CX0 3 T.f_faded T.d_faded ["level", "fade"] sp_faded := by
  refine T.F_faded.ok sc_faded (fun vs H Q E h => ?_) (fun cdv A outer s H vs Q E hr h => ?_)
  · obtain ⟨l, f, rfl, _⟩ := h
    rfl
  · obtain ⟨l, f, rfl, h1, q⟩ := h
    have q' : ∀ z, fdd l f = z → Q (.int z) H := fun z e => e ▸ q
    refine ⟨_,
(pss_cons (ps_if (pt_cmpR op_eq (pv 1) pe_int (nomark _)) (pss_one (ps_ret (pv 0))) pss_nil)
      (pss_one (ps_ret (pe_op op_sub (pv 0) (pe_call (ok_rounded T) (hr.mono (by decide)) (by rfl) T.g_rounded T.F_rounded.kp T.b_rounded .nil pass0 (pa_cons (pv 0) (pa_cons (pv 1) pa_nil)))))))
, ?_⟩
    refine ⟨_, rfl, rfl, _, rfl, ?_⟩
    refine ite2 (fun e => ?_) (fun e => ?_)
    · have e : f = 0 := V.int.inj (of_decide_eq_true e)
      refine ⟨_, rfl, q' _ ?_⟩
      unfold fdd
      rw [if_pos e]
    · have e : ¬ f = 0 := fun z => e (decide_eq_true (by rw [z]))
      refine ⟨_, rfl, _, rfl, _, rfl, l, f, rfl, by omega, by omega, _, _, rfl, rfl, q' _ ?_⟩
      unfold fdd
      rw [if_neg e]
def sd (s : Int × Int) : PyData := pairI s
/-- a state's pair, as it is read -/
def sp_state_behind (K : PySem.W.Frag) : Sp := fun vs H Q _ => ∃ (c x : V) (C : Cod) (s : Int × Int) (k : Nat), vs = [c, x, .int k] ∧ C.Ok ∧ Dp K H c C.dat ∧ Dp K H x (pairI s) ∧ C.St s ∧ k < C.moves.length ∧
  ∀ p, H p = none → Q (.ref p) (upd H p (.tup [.int (C.led s k).1, .int (C.led s k).2]))
set_option maxHeartbeats 4000000 in
theorem ok_state_behind (T : Txt K mg) : FnOk P w K mg base CX0 4 T.f_state_behind T.d_state_behind ["coder", "state", "code"] (sp_state_behind K) := by
  refine T.F_state_behind.ok sc_state_behind (fun vs H Q E h => ?_) (fun cdv A outer s H vs Q E hr h => ?_)
  · obtain ⟨c, x, C, s, k, rfl, _⟩ := h
    rfl
  · obtain ⟨c, x, C, st, k, rfl, O, hc, hx, hst, hk, q⟩ := h
    have hc' := hc
    obtain ⟨a, s, m, ms, rfl, ha, hs, hm, hmd⟩ := cod_at hc
    obtain ⟨t, ht, hT⟩ := move_at hmd hk
    obtain ⟨b, rfl, hb⟩ := dp_pair hx
    obtain ⟨i1, i2, i3, i4⟩ := hst
    refine ⟨_,
(pss_cons (ps_asg (pv 0) (pg_tup (by rfl) (pgs_cons (pg_name (i := 3) sc_state_behind.nd rfl (Or.inl rfl)) (pgs_cons (pg_name (i := 4) sc_state_behind.nd rfl (Or.inl rfl)) (pgs_cons (pg_name (i := 5) sc_state_behind.nd rfl (Or.inl rfl)) (pgs_cons (pg_name (i := 6) sc_state_behind.nd rfl (Or.inl rfl)) (pgs_cons (pg_name (i := 7) sc_state_behind.nd rfl (Or.inl rfl)) pgs_nil)))))))
      (pss_cons (ps_asg (pv 1) (pg_tup (by rfl) (pgs_cons (pg_name (i := 8) sc_state_behind.nd rfl (Or.inl rfl)) (pgs_cons (pg_name (i := 9) sc_state_behind.nd rfl (Or.inl rfl)) pgs_nil))))
      (pss_cons (ps_set (i := 10) sc_state_behind.nd rfl (Or.inl rfl) (pe_ix ix_tup (pe_ix ix_tup (pv 6) (pv 2) (fun _ _ => rfl)) pe_int (fun _ _ => rfl)))
      (pss_cons (ps_set (i := 11) sc_state_behind.nd rfl (Or.inl rfl) (pe_op op_add (pe_call (ok_faded T) (hr.mono (by decide)) (by rfl) T.g_faded T.F_faded.kp T.b_faded .nil pass0 (pa_cons (pv 8) (pa_cons (pv 7) pa_nil))) (pe_call (ok_change_at T) (hr.mono (by decide)) (by rfl) T.g_change_at T.F_change_at.kp T.b_change_at .nil pass0 (pa_cons (pv 0) (pa_cons (pv 2) (pa_cons (pv 9) pa_nil))))))
      (pss_one (ps_ret (pe_tup (pa_cons (pe_call (ok_limited T) (hr.mono (by decide)) (by rfl) T.g_limited T.F_limited.kp T.b_limited .nil pass0 (pa_cons (pv 11) (pa_cons (pv 3) (pa_cons (pv 4) pa_nil)))) (pa_cons (pe_call (ok_limited T) (hr.mono (by decide)) (by rfl) T.g_limited T.F_limited.kp T.b_limited .nil pass0 (pa_cons (pe_op op_add (pv 9) (pv 10)) (pa_cons pe_int (pa_cons (pe_op op_sub (pe_callB (call_len_seq) (by rfl) T.z_len (by decide +kernel) (pa_cons (pv 5) pa_nil)) pe_int) pa_nil)))) pa_nil)))))))))
, ?_⟩
    refine ⟨_, rfl, a, _, rfl, ha, rfl, _, _, rfl, _, _, rfl, _, _, rfl, _, _, rfl, _, _, rfl, rfl, ?_⟩
    refine ⟨_, rfl, b, _, rfl, hb, rfl, _, _, rfl, _, _, rfl, rfl, ?_⟩
    refine ⟨_, rfl, _, rfl, m, _, k, _, rfl, rfl, hm, atI_nat ht, t, _, 1, _, rfl, rfl, hT, atI_nat (j := 1) rfl, ?_⟩
    refine ⟨_, rfl, _, rfl, st.1, C.fade, rfl, O.f1, ?_⟩
    have e2 : st.2 = (st.2.toNat : Int) := by omega
    refine ⟨_, rfl, _, rfl, _, rfl, .ref a, C, k, st.2.toNat, by show [V.ref a, V.int k, V.int st.2] = _; rw [← e2], O, hc', hk, by omega, _, _, rfl, rfl, ?_⟩
    refine ⟨_, rfl, _, rfl, _, rfl, _, _, _, rfl, by have := O.l2; have := O.h1; omega, ?_⟩
    refine ⟨.int st.2, rfl, .int (C.moves.getD k (0, 0)).2, rfl, st.2, (C.moves.getD k (0, 0)).2, rfl, rfl, .ref s, rfl, s, C.steps.map V.int, rfl, .inr hs, ((C.steps.map V.int).length : Int), 1, rfl, rfl, ?_⟩
    refine ⟨st.2 + (C.moves.getD k (0, 0)).2, 0, ((C.steps.map V.int).length : Int) - 1, rfl, ?_, ?_⟩
    · show (0 : Int) ≤ ((C.steps.map V.int).length : Int) - 1
      rw [List.length_map]
      have := O.s1
      omega
    refine ⟨by show 2 ≤ sizeLine; decide, fun p hp => ?_⟩
    have := q p hp
    unfold Cod.led at this
    have e : ((C.steps.map V.int).length : Int) = (C.steps.length : Int) := by rw [List.length_map]
    rw [← e] at this
    exact this
end
end My

namespace My
open PySem PySem.Spec PyProof.Rows L2
section
variable {P : Program} {w : World} {K : PySem.W.Frag} {mg : Str → Option Value} {base : Heap}
theorem ok_law_parted (T : Txt K mg) : FnOk P w K mg base CX0 2 T.f__law_parted T.d__law_parted ["number", "by"] sp_rounded := by
  refine T.F__law_parted.ok sc_law_parted (fun vs H Q E h => ?_) (fun cdv A outer s H vs Q E hr h => ?_)
  · obtain ⟨n, d, rfl, _⟩ := h
    rfl
  · obtain ⟨n, d, rfl, h1, h2, q⟩ := h
    have q' : ∀ z, rnd n d = z → Q (.int z) H := fun z e => e ▸ q
    refine ⟨_,
(pss_one (ps_ret (pe_ifExp (pt_cmpR op_ge (pv 0) pe_int (nomark _)) (pe_op op_fdivN (pv 0) (pv 1)) (pe_op op_sub pe_int (pe_op op_fdivN (pe_op op_sub pe_int (pv 0)) (pv 1))))))
, ?_⟩
    refine ⟨_, rfl, n, 0, rfl, rfl, _, rfl, ?_⟩
    refine ite2 (fun e => ?_) (fun e => ?_)
    · have e := of_decide_eq_true e
      refine ⟨_, rfl, _, rfl, n, d, rfl, rfl, ⟨by omega, by omega⟩, q' _ ?_⟩
      unfold rnd
      rw [if_neg (by omega)]
    · have e : ¬ 0 ≤ n := fun z => e (decide_eq_true z)
      refine ⟨_, rfl, 0, n, rfl, rfl, _, rfl, _, d, rfl, rfl, ⟨by omega, by omega⟩, 0, _, rfl, rfl, q' _ ?_⟩
      unfold rnd
      rw [if_pos (by omega), Int.zero_sub, Int.zero_sub]
theorem ok_law_limited (T : Txt K mg) : FnOk P w K mg base CX0 2 T.f__law_limited T.d__law_limited ["number", "least", "most"] sp_limited := by
  refine T.F__law_limited.ok sc_law_limited (fun vs H Q E h => ?_) (fun cdv A outer s H vs Q E hr h => ?_)
  · obtain ⟨n, lo, hi, rfl, _⟩ := h
    rfl
  · obtain ⟨n, lo, hi, rfl, h1, q⟩ := h
    have q' : ∀ z, lim n lo hi = z → Q (.int z) H := fun z e => e ▸ q
    refine ⟨_,
(pss_one (ps_ret (pe_ifExp (pt_cmpR op_lt (pv 0) (pv 1) (nomark _)) (pv 1) (pe_ifExp (pt_cmpR op_gt (pv 0) (pv 2) (nomark _)) (pv 2) (pv 0)))))
, ?_⟩
    refine ⟨_, rfl, _, rfl, n, lo, rfl, rfl, _, rfl, ?_⟩
    refine ite2 (fun e => ?_) (fun e => ?_)
    · have e := of_decide_eq_true e
      refine ⟨_, rfl, q' _ ?_⟩
      unfold lim
      rw [if_pos e]
    · have e : ¬ n < lo := fun z => e (decide_eq_true z)
      refine ⟨_, rfl, _, rfl, n, hi, rfl, rfl, _, rfl, ?_⟩
      refine ite2 (fun e' => ?_) (fun e' => ?_)
      · have e' := of_decide_eq_true e'
        refine ⟨_, rfl, q' _ ?_⟩
        unfold lim
        rw [if_neg e, if_pos (by omega)]
      · have e' : ¬ hi < n := fun z => e' (decide_eq_true z)
        refine ⟨_, rfl, q' _ ?_⟩
        unfold lim
        rw [if_neg e, if_neg (by omega)]
set_option maxHeartbeats 4000000 in
theorem ok_law_led (T : Txt K mg) : FnOk P w K mg base CX0 3 T.f__law_led T.d__law_led ["coder", "here", "code"] (sp_state_behind K) := by
  refine T.F__law_led.ok sc_law_led (fun vs H Q E h => ?_) (fun cdv A outer s H vs Q E hr h => ?_)
  · obtain ⟨c, x, C, s, k, rfl, _⟩ := h
    rfl
  · obtain ⟨c, x, C, st, k, rfl, O, hc, hx, hst, hk, q⟩ := h
    obtain ⟨a, s, m, ms, rfl, ha, hs, hm, hmd⟩ := cod_at hc
    obtain ⟨t, ht, hT⟩ := move_at hmd hk
    obtain ⟨b, rfl, hb⟩ := dp_pair hx
    obtain ⟨i1, i2, i3, i4⟩ := hst
    have e2 : st.2 = (st.2.toNat : Int) := by omega
    refine ⟨_,
(pss_cons (ps_asg (pe_ix ix_tup (pe_ix ix_tup (pv 0) pe_int (fun _ _ => rfl)) (pv 2) (fun _ _ => rfl)) (pg_tup (by rfl) (pgs_cons (pg_name (i := 3) sc_law_led.nd rfl (Or.inl rfl)) (pgs_cons (pg_name (i := 4) sc_law_led.nd rfl (Or.inl rfl)) pgs_nil))))
      (pss_cons (ps_set (i := 5) sc_law_led.nd rfl (Or.inl rfl) (pe_ix ix_tup (pv 1) pe_int (fun _ _ => rfl)))
      (pss_cons (ps_if (pt_cmpR op_ne (pe_ix ix_tup (pv 0) pe_int (fun _ _ => rfl)) pe_int (nomark _)) (pss_one (ps_set (i := 5) sc_law_led.nd rfl (Or.inl rfl) (pe_op op_sub (pv 5) (pe_call (ok_law_parted T) (hr.mono (by decide)) (by rfl) T.g__law_parted T.F__law_parted.kp T.b__law_parted .nil pass0 (pa_cons (pv 5) (pa_cons (pe_ix ix_tup (pv 0) pe_int (fun _ _ => rfl)) pa_nil)))))) pss_nil)
      (pss_cons (ps_set (i := 5) sc_law_led.nd rfl (Or.inl rfl) (pe_op op_add (pv 5) (pe_call (ok_law_parted T) (hr.mono (by decide)) (by rfl) T.g__law_parted T.F__law_parted.kp T.b__law_parted .nil pass0 (pa_cons (pe_op op_mul (pv 3) (pe_ix ix_tup (pe_ix ix_tup (pv 0) pe_int (fun _ _ => rfl)) (pe_ix ix_tup (pv 1) pe_int (fun _ _ => rfl)) (fun _ _ => rfl))) (pa_cons pe_int pa_nil)))))
      (pss_one (ps_ret (pe_tup (pa_cons (pe_call (ok_law_limited T) (hr.mono (by decide)) (by rfl) T.g__law_limited T.F__law_limited.kp T.b__law_limited .nil pass0 (pa_cons (pv 5) (pa_cons (pe_ix ix_tup (pv 0) pe_int (fun _ _ => rfl)) (pa_cons (pe_ix ix_tup (pv 0) pe_int (fun _ _ => rfl)) pa_nil)))) (pa_cons (pe_call (ok_law_limited T) (hr.mono (by decide)) (by rfl) T.g__law_limited T.F__law_limited.kp T.b__law_limited .nil pass0 (pa_cons (pe_op op_add (pe_ix ix_tup (pv 1) pe_int (fun _ _ => rfl)) (pv 4)) (pa_cons pe_int (pa_cons (pe_op op_sub (pe_callB (call_len_seq) (by rfl) T.z_len (by decide +kernel) (pa_cons (pe_ix ix_tup (pv 0) pe_int (fun _ _ => rfl)) pa_nil)) pe_int) pa_nil)))) pa_nil)))))))))
, ?_⟩
    refine ⟨_, rfl, a, _, 3, _, rfl, rfl, ha, atI_nat (j := 3) rfl, _, rfl, m, _, k, _, rfl, rfl, hm, atI_nat ht, t, _, rfl, hT, rfl, _, _, rfl, _, _, rfl, rfl, ?_⟩
    refine ⟨_, rfl, b, _, 0, _, rfl, rfl, hb, atI_nat (j := 0) rfl, ?_⟩
    dsimp only
    refine st_tail (fun σ H' => σ = [some (.ref a), some (.ref b), some (.int k), some (.int (C.moves.getD k (0, 0)).1), some (.int (C.moves.getD k (0, 0)).2), some (.int (fdd st.1 C.fade))] ∧ H' = H) ?_ fun tail => ?_
    · rintro σ H' ⟨rfl, rfl⟩
      refine ⟨_, rfl, _, rfl, .ref a, rfl, a, _, 2, _, rfl, rfl, ha, atI_nat (j := 2) rfl, _, rfl, b, _, 1, _, rfl, rfl, hb, atI_nat (j := 1) rfl, s, _, st.2, .int (C.steps.getD st.2.toNat 0), rfl, rfl, hs, ?_, _, _, rfl, rfl, ?_, ?_⟩
      · rw [e2]
        exact atI_nat (step_at (by omega))
      · have hm3 : (C.moves.getD k (0, 0)) ∈ C.moves := by
          rw [List.getD_eq_getElem?_getD, List.getElem?_eq_getElem hk]
          exact List.getElem_mem hk
        have := O.m3 _ hm3
        exact .inl ⟨by omega, by omega⟩
      refine ⟨_, 8, rfl, by decide, by decide, _, _, rfl, rfl, ?_⟩
      refine ⟨_, rfl, _, rfl, a, _, 0, _, rfl, rfl, ha, atI_nat (j := 0) rfl, _, rfl, a, _, 1, _, rfl, rfl, ha, atI_nat (j := 1) rfl, _, _, _, rfl, by have := O.l2; have := O.h1; omega, ?_⟩
      refine ⟨_, rfl, b, _, 1, _, rfl, rfl, hb, atI_nat (j := 1) rfl, .int (C.moves.getD k (0, 0)).2, rfl, _, _, rfl, rfl, .ref a, rfl, a, _, 2, _, rfl, rfl, ha, atI_nat (j := 2) rfl, s, C.steps.map V.int, rfl, .inr hs, ((C.steps.map V.int).length : Int), 1, rfl, rfl, ?_⟩
      refine ⟨st.2 + (C.moves.getD k (0, 0)).2, 0, ((C.steps.map V.int).length : Int) - 1, rfl, ?_, ?_⟩
      · show (0 : Int) ≤ ((C.steps.map V.int).length : Int) - 1
        rw [List.length_map]
        have := O.s1
        omega
      refine ⟨by show 2 ≤ sizeLine; decide, fun p hp => ?_⟩
      have := q p hp
      unfold Cod.led at this
      have e : ((C.steps.map V.int).length : Int) = (C.steps.length : Int) := by rw [List.length_map]
      rw [← e] at this
      exact this
    · refine ⟨_, rfl, a, _, 4, _, rfl, rfl, ha, atI_nat (j := 4) rfl, rfl, _, rfl, ?_⟩
      show if (!decide (V.int C.fade = V.int 0)) = true then _ else _
      by_cases e : C.fade = 0
      · rw [e]
        refine iteF ?_
        refine tail _ _ ⟨?_, rfl⟩
        unfold fdd
        rw [if_pos e]
        rfl
      · have e' : decide (V.int C.fade = V.int 0) = false := decide_eq_false fun z => e (V.int.inj z)
        rw [e']
        refine iteT ?_
        refine ⟨.int st.1, rfl, .int st.1, rfl, .ref a, rfl, a, _, 4, _, rfl, rfl, ha, atI_nat (j := 4) rfl, st.1, C.fade, rfl, by have := O.f1; omega, by have := O.f1; omega, st.1, rnd st.1 C.fade, rfl, rfl, ?_⟩
        refine tail _ _ ⟨?_, rfl⟩
        unfold fdd
        rw [if_neg e]
        rfl
/-- the states of a row, the beginning one too -/
def Cod.path (C : Cod) (s : Int × Int) : List Nat → List (Int × Int)
  | [] => [s]
  | k :: r => s :: Cod.path C (C.led s k) r
theorem path_snoc {C : Cod} : ∀ (r : List Nat) (s : Int × Int) (k : Nat), C.path s (r ++ [k]) = C.path s r ++ [C.led (C.run s r) k]
  | [], _, _ => rfl
  | j :: r, s, k => by
    show s :: C.path (C.led s j) (r ++ [k]) = _
    rw [path_snoc r (C.led s j) k]
    rfl
theorem path_last {C : Cod} : ∀ (r : List Nat) (s : Int × Int), ∃ l, C.path s r = l ++ [C.run s r]
  | [], s => ⟨[], rfl⟩
  | j :: r, s => by
    obtain ⟨l, e⟩ := path_last r (C.led s j)
    exact ⟨s :: l, by show s :: C.path (C.led s j) r = _; rw [e]; rfl⟩
theorem path_len {C : Cod} : ∀ (r : List Nat) (s : Int × Int), (C.path s r).length = r.length + 1
  | [], _ => rfl
  | j :: r, s => congrArg (· + 1) (path_len r (C.led s j))
theorem path_get {C : Cod} : ∀ (r : List Nat) (s : Int × Int) (i : Nat), i ≤ r.length → (C.path s r)[i]? = some (C.run s (r.take i))
  | [], _, 0, _ => rfl
  | [], _, i + 1, h => by simp at h
  | j :: r, s, 0, _ => rfl
  | j :: r, s, i + 1, h => by
    show (C.path (C.led s j) r)[i]? = _
    exact path_get r _ i (by simpa using h)
theorem path_tail {C : Cod} : ∀ (r : List Nat) (s : Int × Int), ((C.path s r).drop 1).map (·.1) = C.lev s r
  | [], _ => rfl
  | [k], _ => rfl
  | k :: j :: r, s => by
    have ih := path_tail (C := C) (j :: r) (C.led s k)
    show (C.path (C.led s k) (j :: r)).map (·.1) = (C.led s k).1 :: C.lev (C.led s k) (j :: r)
    rw [← ih]
    rfl
def sp_law_walked (K : PySem.W.Frag) : Sp := fun vs H Q _ => ∃ (c x r : V) (C : Cod) (row : List Nat) (s : Int × Int), vs = [c, x, r] ∧ C.Ok ∧ Dp K H c C.dat ∧ Dp K H r (rowI row) ∧ C.Row row ∧ Dp K H x (pairI s) ∧ C.St s ∧
  ∀ p xs H', Same H H' → H p = none → H' p = some (.lst xs) → DpAll K H' xs ((C.path s row).map pairI) → Q (.ref p) H'
theorem ok_law_walked (T : Txt K mg) : FnOk P w K mg base CX0 4 T.f__law_walked T.d__law_walked ["coder", "here", "row"] (sp_law_walked K) := by
  refine T.F__law_walked.ok sc_law_walked (fun vs H Q E h => ?_) (fun cdv A outer s H vs Q E hr h => ?_)
  · obtain ⟨c, x, r, C, row, s, rfl, _⟩ := h
    rfl
  · obtain ⟨c, x, r, C, row, st, rfl, O, hc, hrow, R, hx, hst, q⟩ := h
    refine ⟨_,
(pss_cons (ps_set (i := 3) sc_law_walked.nd rfl (Or.inl rfl) (pe_lst (pa_cons (pv 1) pa_nil)))
      (pss_cons (ps_for PassesOwn.never rfl (pi_tup (pv 2)) (pg_name (i := 4) sc_law_walked.nd rfl (Or.inl rfl)) (pss_one (ps_expr (pe_bm PySem.F.plainAttrs_list PySem.F.slot_list_append PySem.F.type_list_append mt_append (pv 3) (pa_cons (pe_call (ok_law_led T) (hr.mono (by decide)) (by rfl) T.g__law_led T.F__law_led.kp T.b__law_led .nil pass0 (pa_cons (pv 0) (pa_cons (pe_ix ix_list (pv 3) (pe_un un_neg pe_int) (fun _ _ => rfl)) (pa_cons (pv 4) pa_nil)))) pa_nil)))))
      (pss_one (ps_ret (pv 3)))))
, ?_⟩
    refine ⟨x, rfl, by show 1 ≤ sizeLine; decide, fun l hl => ?_⟩
    have s1 := same_new (o := .lst [x]) hl
    obtain ⟨a, rfl, ha⟩ := row_at hrow
    refine ⟨.ref a, rfl, a, rfl, ⟨_, same_tup s1 ha⟩, ?_⟩
    refine for_tup (K := K) (a := a) (xs := rowV row) (fun i σ H' => ∃ xs y, σ = [some c, some x, some (.ref a), some (.ref l), y] ∧ Same H H' ∧ H' l = some (.lst xs) ∧ DpAll K H' xs ((C.path st (row.take i)).map pairI))
      ⟨[x], none, rfl, s1, upd_same, .cons (dp_same s1 _ _ hx) .nil⟩ ?_ ?_ ?_
    · rintro i σ H' _ ⟨_, _, _, s2, _⟩
      exact same_tup s2 ha
    · rintro i v σ H' hi ⟨xs, y, rfl, s2, hL, hD⟩
      obtain ⟨k, hk, rfl⟩ := rowV_get hi
      obtain ⟨ps, hps⟩ := path_last (C := C) (row.take i) st
      obtain ⟨x1, x2, rfl, z, e2, hz⟩ : ∃ x1 x2, xs = x1 ++ x2 ∧ ∃ z, x2 = [z] ∧ Dp K H' z (pairI (C.run st (row.take i))) := by
        have hl2 := dpAll_len hD
        rw [hps] at hD hl2
        have hne : xs ≠ [] := by
          intro e
          rw [e] at hl2
          simp at hl2
        refine ⟨xs.dropLast, [xs.getLast hne], (List.dropLast_concat_getLast hne).symm, _, rfl, ?_⟩
        obtain ⟨z, hz, hd⟩ := dpAll_get' hD (i := ps.length) (d := pairI (C.run st (row.take i))) (by rw [List.map_append, List.getElem?_append_right (by simp)]; simp)
        have hxl : xs.length = ps.length + 1 := by rw [hl2]; simp
        have : xs.getLast hne = z := by
          rw [List.getLast_eq_getElem]
          have e : xs[xs.length - 1]? = some z := by rw [hxl]; exact hz
          exact (List.getElem?_eq_some_iff.mp e).2
        rw [this]
        exact hd
      subst e2
      have hlen : i < 2000 := by
        have h1 := (List.getElem?_eq_some_iff.mp hk).1
        have := R.len
        omega
      refine ⟨.ref l, rfl, .inl ⟨rfl, _, SqL.of hL⟩, c, rfl, .ref l, rfl, 1, rfl, l, _, -1, z, rfl, rfl, SqL.of hL, atI_last _ _, .int k, rfl, c, z, C, _, k, rfl, O, dp_same s2 _ _ hc, hz, run_St O _ hst, R.lt k (List.mem_of_getElem? hk), fun p hp => ?_⟩
      have s3 := s2.trans (same_new (o := .tup [.int (C.led (C.run st (row.take i)) k).1, .int (C.led (C.run st (row.take i)) k).2]) hp)
      have hL3 := same_new (o := .tup [.int (C.led (C.run st (row.take i)) k).1, .int (C.led (C.run st (row.take i)) k).2]) hp _ _ hL
      have hD3 := dpAll_same (same_new (o := .tup [.int (C.led (C.run st (row.take i)) k).1, .int (C.led (C.run st (row.take i)) k).2]) hp) _ _ hD
      refine ⟨l, _, _, rfl, rfl, hL3, ?_, ?_⟩
      · rw [dpAll_len hD, List.length_map, path_len, List.length_take]
        exact Nat.lt_of_le_of_lt (Nat.add_le_add_right (Nat.min_le_left _ _) 1) (by have : i + 1 ≤ 2000 := hlen; exact Nat.lt_of_le_of_lt this (by decide))
      · refine ⟨_, _, rfl, fun b o hb => ?_, upd_same, ?_⟩
        · rw [upd_ne (ne_of_none hb hl)]
          exact s3 b o hb
        · rw [take_snoc hk, path_snoc, List.map_append]
          exact dpAll_app (pairs_set hL3 hD3) (.cons (dp_mkpair (sqt_set hL3 upd_tup)) .nil)
    · rintro σ H' ⟨xs, y, rfl, s2, hL, hD⟩
      have e : row.take (rowV row).length = row := by
        unfold rowV
        rw [List.length_map, List.take_length]
      rw [e] at hD
      exact ⟨.ref l, rfl, q l xs H' s2 hl hL hD⟩
end
end My

namespace My
open PySem PySem.Spec PyProof.Rows L2
/-! ### what rows do to places and levels -/
def Cod.plc (C : Cod) (p : Int) (k : Nat) : Int := lim (p + (C.moves.getD k (0, 0)).2) 0 ((C.steps.length : Int) - 1)
def Cod.pl (C : Cod) (p : Int) : List Nat → Int
  | [] => p
  | k :: r => Cod.pl C (C.plc p k) r
def Cod.chs (C : Cod) (p : Int) : List Nat → List Int
  | [] => []
  | k :: r => C.chg k p.toNat :: Cod.chs C (C.plc p k) r
def Cod.lvc (C : Cod) (l c : Int) : Int := lim (fdd l C.fade + c) C.low C.high
def Cod.lv (C : Cod) (l : Int) : List Int → Int
  | [] => l
  | c :: r => Cod.lv C (C.lvc l c) r
theorem run_split {C : Cod} : ∀ (row : List Nat) (l p : Int), C.run (l, p) row = (C.lv l (C.chs p row), C.pl p row)
  | [], _, _ => rfl
  | k :: r, l, p => run_split r (C.lvc l (C.chg k p.toNat)) (C.plc p k)
theorem run_eq {C : Cod} (row : List Nat) (s : Int × Int) : C.run s row = (C.lv s.1 (C.chs s.2 row), C.pl s.2 row) := run_split row s.1 s.2
theorem pl_snoc {C : Cod} : ∀ (r : List Nat) (p : Int) (k : Nat), C.pl p (r ++ [k]) = C.plc (C.pl p r) k
  | [], _, _ => rfl
  | j :: r, p, k => pl_snoc r (C.plc p j) k
theorem chs_snoc {C : Cod} : ∀ (r : List Nat) (p : Int) (k : Nat), C.chs p (r ++ [k]) = C.chs p r ++ [C.chg k (C.pl p r).toNat]
  | [], _, _ => rfl
  | j :: r, p, k => congrArg (C.chg j p.toNat :: ·) (chs_snoc r (C.plc p j) k)
theorem chs_len {C : Cod} : ∀ (r : List Nat) (p : Int), (C.chs p r).length = r.length
  | [], _ => rfl
  | _ :: r, _ => congrArg (· + 1) (chs_len r _)
theorem lv_snoc {C : Cod} : ∀ (r : List Int) (l c : Int), C.lv l (r ++ [c]) = C.lvc (C.lv l r) c
  | [], _, _ => rfl
  | j :: r, l, c => lv_snoc r (C.lvc l j) c
def Cod.pIn (C : Cod) (p : Int) : Prop := 0 ≤ p ∧ p ≤ (C.steps.length : Int) - 1
def Cod.lIn (C : Cod) (l : Int) : Prop := C.low ≤ l ∧ l ≤ C.high
theorem plc_in {C : Cod} (O : C.Ok) (p : Int) (k : Nat) : C.pIn (C.plc p k) := lim_in (by have := O.s1; omega)
theorem lvc_in {C : Cod} (O : C.Ok) (l c : Int) : C.lIn (C.lvc l c) := lim_in (by have := O.l2; have := O.h1; omega)
theorem pl_in {C : Cod} (O : C.Ok) : ∀ (r : List Nat) {p : Int}, C.pIn p → C.pIn (C.pl p r)
  | [], _, h => h
  | k :: r, p, _ => pl_in O r (plc_in O p k)
theorem lv_in {C : Cod} (O : C.Ok) : ∀ (r : List Int) {l : Int}, C.lIn l → C.lIn (C.lv l r)
  | [], _, h => h
  | c :: r, l, _ => lv_in O r (lvc_in O l c)
theorem lim_mono {a b lo hi : Int} (h : a ≤ b) (hl : lo ≤ hi) : lim a lo hi ≤ lim b lo hi := by
  unfold lim
  split <;> split <;> (try split) <;> omega
theorem lim_step {a b lo hi : Int} (h : a ≤ b) (h1 : b ≤ a + 1) (hl : lo ≤ hi) : lim b lo hi ≤ lim a lo hi + 1 := by
  unfold lim
  split <;> split <;> (try split) <;> omega
theorem div_next {a f : Int} (hf : 2 ≤ f) : (a + 1) / f ≤ a / f + 1 := by
  have h : (a + f) / f = a / f + 1 := Int.add_ediv_of_dvd_right (Int.dvd_refl f) |>.trans (by rw [Int.ediv_self (by omega)])
  rw [← h]
  exact Int.ediv_le_ediv (by omega) (by omega)
theorem rnd_next {a f : Int} (hf : 2 ≤ f) : rnd a f ≤ rnd (a + 1) f ∧ rnd (a + 1) f ≤ rnd a f + 1 := by
  unfold rnd
  split
  · rename_i h
    rw [Int.fdiv_eq_ediv_of_nonneg _ (by omega)]
    split
    · rw [Int.fdiv_eq_ediv_of_nonneg _ (by omega)]
      have h1 := div_next (a := -(a + 1)) hf
      have h2 : -(a + 1) / f ≤ -a / f := Int.ediv_le_ediv (by omega) (by omega)
      rw [show -(a + 1) + 1 = -a by omega] at h1
      omega
    · rw [Int.fdiv_eq_ediv_of_nonneg _ (by omega)]
      have e : a = -1 := by omega
      subst e
      have h0 : (0 : Int) / f = 0 := Int.zero_ediv f
      have h1 : (1 : Int) / f = 0 := Int.ediv_eq_zero_of_lt (by omega) (by omega)
      simp [h0, h1]
  · rename_i h
    rw [if_neg (by omega), Int.fdiv_eq_ediv_of_nonneg _ (by omega), Int.fdiv_eq_ediv_of_nonneg _ (by omega)]
    exact ⟨Int.ediv_le_ediv (by omega) (by omega), div_next hf⟩
theorem fdd_next {a f : Int} (hf : f = 0 ∨ 2 ≤ f) : fdd a f ≤ fdd (a + 1) f ∧ fdd (a + 1) f ≤ fdd a f + 1 := by
  unfold fdd
  split
  · omega
  · have := rnd_next (a := a) (f := f) (by omega)
    omega
theorem lvc_next {C : Cod} (O : C.Ok) (l c : Int) : C.lvc l c ≤ C.lvc (l + 1) c ∧ C.lvc (l + 1) c ≤ C.lvc l c + 1 := by
  have h := fdd_next (a := l) (f := C.fade) (by have := O.f1; omega)
  have hl : C.low ≤ C.high := by have := O.l2; have := O.h1; omega
  exact ⟨lim_mono (by omega) hl, lim_step (by omega) (by omega) hl⟩
theorem mono_of_next {f : Int → Int} (h : ∀ a, f a ≤ f (a + 1)) {a b : Int} (hab : a ≤ b) : f a ≤ f b := by
  obtain ⟨n, rfl⟩ : ∃ n : Nat, b = a + n := ⟨(b - a).toNat, by omega⟩
  clear hab
  induction n with
  | zero => simp
  | succ n ih =>
    have := h (a + n)
    rw [show a + ((n + 1 : Nat) : Int) = a + n + 1 by omega]
    omega
theorem lv_next {C : Cod} (O : C.Ok) : ∀ (r : List Int) (l m : Int), l ≤ m → m ≤ l + 1 → C.lv l r ≤ C.lv m r ∧ C.lv m r ≤ C.lv l r + 1
  | [], l, m, h1, h2 => ⟨h1, h2⟩
  | c :: r, l, m, h1, h2 => by
    have h : m = l ∨ m = l + 1 := by omega
    rcases h with e | e
    · subst e
      exact ⟨Int.le_refl _, by omega⟩
    · subst e
      have := lvc_next O l c
      exact lv_next O r _ _ this.1 this.2
theorem lv_mono {C : Cod} (O : C.Ok) (r : List Int) {a b : Int} (h : a ≤ b) : C.lv a r ≤ C.lv b r :=
  mono_of_next (f := fun l => C.lv l r) (fun a => (lv_next O r a (a + 1) (by omega) (by omega)).1) h
theorem pl_mono {C : Cod} (O : C.Ok) : ∀ (r : List Nat) {a b : Int}, a ≤ b → C.pl a r ≤ C.pl b r
  | [], _, _, h => h
  | k :: r, a, b, h => pl_mono O r (lim_mono (by omega) (by have := O.s1; omega))
/-- without a fade: three integers tell the map -/
theorem lv_limits {C : Cod} (O : C.Ok) (h0 : C.fade = 0) (l : Int) (hl : C.lIn l) : ∀ (r : List Int),
    C.lv l r = lim (l + r.sum) (C.lv C.low r) (C.lv C.high r) := by
  have key : ∀ (n : Nat) (r : List Int), r.length = n → C.lv l r = lim (l + r.sum) (C.lv C.low r) (C.lv C.high r) ∧ C.lv C.low r ≤ C.lv C.high r := by
    intro n
    induction n with
    | zero =>
      intro r hr
      have e : r = [] := List.length_eq_zero_iff.mp hr
      subst e
      have := hl.1
      have := hl.2
      refine ⟨?_, by show C.low ≤ C.high; omega⟩
      show l = lim (l + 0) C.low C.high
      unfold lim
      rw [if_neg (by omega), if_neg (by omega)]
      omega
    | succ n ih =>
      intro r hr
      obtain ⟨q, c, rfl⟩ : ∃ q c, r = q ++ [c] := ⟨r.dropLast, r.getLast (by intro e; rw [e] at hr; cases hr), (List.dropLast_concat_getLast _).symm⟩
      have hq : q.length = n := by simp at hr; exact hr
      obtain ⟨e, hle⟩ := ih q hq
      rw [lv_snoc, lv_snoc, lv_snoc, e]
      have hs : (q ++ [c]).sum = q.sum + c := by simp
      rw [hs]
      unfold Cod.lvc fdd
      rw [if_pos h0, if_pos h0, if_pos h0]
      have hlh : C.low ≤ C.high := by have := O.l2; have := O.h1; omega
      generalize C.lv C.low q = A at *
      generalize C.lv C.high q = B at *
      generalize q.sum = S
      refine ⟨?_, lim_mono (by omega) hlh⟩
      unfold lim
      (repeat' split) <;> omega
  exact fun r => (key r.length r rfl).1
theorem lv_lim_le {C : Cod} (O : C.Ok) (r : List Int) : C.lv C.low r ≤ C.lv C.high r := lv_mono O r (by have := O.l2; have := O.h1; omega)
/-! ### repetitions -/
def itr (f : Int → Int) : Nat → Int → Int
  | 0, x => x
  | n + 1, x => f (itr f n x)
theorem itr_in {f : Int → Int} {lo hi x : Int} (hf : ∀ y, lo ≤ y ∧ y ≤ hi → lo ≤ f y ∧ f y ≤ hi) (hx : lo ≤ x ∧ x ≤ hi) : ∀ n, lo ≤ itr f n x ∧ itr f n x ≤ hi
  | 0 => hx
  | n + 1 => hf _ (itr_in hf hx n)
theorem itr_le {f : Int → Int} {lo hi x : Int} (hf : ∀ y, lo ≤ y ∧ y ≤ hi → lo ≤ f y ∧ f y ≤ hi) (hm : ∀ a b, a ≤ b → f a ≤ f b) (hx : lo ≤ x ∧ x ≤ hi)
    {n : Nat} (h : ∀ j < n, itr f (j + 1) x ≠ itr f j x) : (n : Int) ≤ hi - lo := by
  rcases Int.le_total x (f x) with hd | hd
  · have up : ∀ j, itr f j x ≤ itr f (j + 1) x := by
      intro j
      induction j with
      | zero => exact hd
      | succ j ih => exact hm _ _ ih
    have : ∀ j ≤ n, x + (j : Int) ≤ itr f j x := by
      intro j
      induction j with
      | zero => intro _; show x + 0 ≤ x; omega
      | succ j ih =>
        intro hj
        have h1 := ih (by omega)
        have h2 := up j
        have h3 := h j (by omega)
        omega
    have h1 := this n (Nat.le_refl _)
    have h2 := itr_in hf hx n
    omega
  · have dn : ∀ j, itr f (j + 1) x ≤ itr f j x := by
      intro j
      induction j with
      | zero => exact hd
      | succ j ih => exact hm _ _ ih
    have : ∀ j ≤ n, itr f j x ≤ x - (j : Int) := by
      intro j
      induction j with
      | zero => intro _; show x ≤ x - 0; omega
      | succ j ih =>
        intro hj
        have h1 := ih (by omega)
        have h2 := dn j
        have h3 := h j (by omega)
        omega
    have h1 := this n (Nat.le_refl _)
    have h2 := itr_in hf hx n
    omega
theorem itr_rest {f : Int → Int} {x : Int} {n : Nat} (h : itr f (n + 1) x = itr f n x) : ∀ k, itr f (n + k) x = itr f n x
  | 0 => rfl
  | k + 1 => by
    show f (itr f (n + k) x) = _
    rw [itr_rest h k]
    exact h
def Cod.rep (C : Cod) (row : List Nat) (s : Int × Int) : Nat → Int × Int
  | 0 => s
  | n + 1 => C.run (Cod.rep C row s n) row
theorem rep_St {C : Cod} (O : C.Ok) {row : List Nat} {s : Int × Int} (h : C.St s) : ∀ n, C.St (C.rep row s n)
  | 0 => h
  | n + 1 => run_St O row (rep_St O h n)
theorem rep_pl {C : Cod} {row : List Nat} {s : Int × Int} : ∀ n, (C.rep row s n).2 = itr (fun p => C.pl p row) n s.2
  | 0 => rfl
  | n + 1 => by
    show (C.run (C.rep row s n) row).2 = C.pl (itr (fun p => C.pl p row) n s.2) row
    rw [run_eq, ← rep_pl n]
theorem rep_lv {C : Cod} {row : List Nat} {s : Int × Int} {P : Nat} (hP : (C.rep row s (P + 1)).2 = (C.rep row s P).2) :
    ∀ j, C.rep row s (P + j) = (itr (fun l => C.lv l (C.chs (C.rep row s P).2 row)) j (C.rep row s P).1, (C.rep row s P).2)
  | 0 => rfl
  | j + 1 => by
    show C.run (C.rep row s (P + j)) row = _
    rw [rep_lv hP j, run_eq]
    have e : C.pl (C.rep row s P).2 row = (C.rep row s P).2 := by
      have : (C.run (C.rep row s P) row).2 = (C.rep row s P).2 := hP
      rw [run_eq] at this
      exact this
    rw [e]
    rfl
theorem rep_rest {C : Cod} {row : List Nat} {s : Int × Int} {T : Nat} (h : C.rep row s (T + 1) = C.rep row s T) : ∀ k, C.rep row s (T + k) = C.rep row s T
  | 0 => rfl
  | k + 1 => by
    show C.run (C.rep row s (T + k)) row = _
    rw [rep_rest h k]
    exact h
/-- the places come to rest behind just P repetitions -/
structure Rests (C : Cod) (row : List Nat) (s : Int × Int) (P : Nat) : Prop where
  mv : ∀ j < P, (C.rep row s (j + 1)).2 ≠ (C.rep row s j).2
  st : (C.rep row s (P + 1)).2 = (C.rep row s P).2
/-- the row settles behind just T repetitions, the place with P of them -/
structure Settles (C : Cod) (row : List Nat) (s : Int × Int) (T P : Nat) : Prop where
  mv : ∀ j < T, C.rep row s (j + 1) ≠ C.rep row s j
  st : C.rep row s (T + 1) = C.rep row s T
  pl : (C.rep row s (P + 1)).2 = (C.rep row s P).2
  pT : P ≤ T
  pm : (P : Int) ≤ (C.steps.length : Int) - 1
  tm : (T : Int) ≤ (C.steps.length : Int) - 1 + (C.high - C.low)
theorem places_le {C : Cod} (O : C.Ok) {row : List Nat} {s : Int × Int} (hs : C.St s) {n : Nat} (h : ∀ j < n, (C.rep row s (j + 1)).2 ≠ (C.rep row s j).2) : (n : Int) ≤ (C.steps.length : Int) - 1 := by
  have := itr_le (f := fun p => C.pl p row) (lo := 0) (hi := (C.steps.length : Int) - 1) (x := s.2) (fun y hy => pl_in O row hy) (fun a b hab => pl_mono O row hab) ⟨hs.2.2.1, by have := hs.2.2.2; omega⟩
    (n := n) (fun j hj => by rw [← rep_pl, ← rep_pl]; exact h j hj)
  omega
theorem levels_le {C : Cod} (O : C.Ok) {cs : List Int} {l : Int} (hl : C.lIn l) {n : Nat} (h : ∀ j < n, itr (fun l => C.lv l cs) (j + 1) l ≠ itr (fun l => C.lv l cs) j l) : (n : Int) ≤ C.high - C.low :=
  itr_le (f := fun l => C.lv l cs) (fun _ hy => lv_in O cs hy) (fun _ _ hab => lv_mono O cs hab) hl h
theorem settles_of {C : Cod} (O : C.Ok) {row : List Nat} {s : Int × Int} (hs : C.St s) {P Q : Nat} (r : Rests C row s P)
    (mv : ∀ j < Q, itr (fun l => C.lv l (C.chs (C.rep row s P).2 row)) (j + 1) (C.rep row s P).1 ≠ itr (fun l => C.lv l (C.chs (C.rep row s P).2 row)) j (C.rep row s P).1)
    (st : itr (fun l => C.lv l (C.chs (C.rep row s P).2 row)) (Q + 1) (C.rep row s P).1 = itr (fun l => C.lv l (C.chs (C.rep row s P).2 row)) Q (C.rep row s P).1) : Settles C row s (P + Q) P := by
  have h1 := places_le O hs r.mv
  have hS := rep_St O (row := row) hs P
  have h2 := levels_le O ⟨hS.1, hS.2.1⟩ mv
  refine ⟨fun j hj e => ?_, ?_, r.st, by omega, h1, by omega⟩
  · rcases Nat.lt_or_ge j P with h | h
    · exact r.mv j h (by rw [e])
    · obtain ⟨i, rfl⟩ : ∃ i, j = P + i := ⟨j - P, by omega⟩
      have e' : C.rep row s (P + (i + 1)) = C.rep row s (P + i) := e
      rw [rep_lv r.st, rep_lv r.st] at e'
      exact mv i (by omega) (congrArg Prod.fst e')
  · show C.rep row s (P + (Q + 1)) = _
    rw [rep_lv r.st, rep_lv r.st, st]
end My

namespace My
open PySem PySem.Spec PyProof.Rows L2
theorem same_put {H H' : Hp} {p : Addr} {o : HO} (s : Same H H') (h : H p = none) : Same H (upd H' p o) := fun b u e => by
  rw [upd_ne (ne_of_none e h)]
  exact s b u e
theorem cut2 (a b c d e : V) : cutV [a, b, c, d, e] none (some 2) = [a, b] := rfl
theorem cut3 (a b c d e : V) : cutV [a, b, c, d, e] none (some 3) = [a, b, c] := rfl
def Cod.reps (C : Cod) (row : List Nat) (s : Int × Int) (n : Nat) : List (Int × Int) := (List.range n).map (C.rep row s)
theorem reps_succ {C : Cod} {row : List Nat} {s : Int × Int} (n : Nat) : C.reps row s (n + 1) = C.reps row s n ++ [C.rep row s n] := by
  unfold Cod.reps
  rw [List.range_succ, List.map_append]
  rfl
theorem reps_len {C : Cod} {row : List Nat} {s : Int × Int} (n : Nat) : (C.reps row s n).length = n := by
  unfold Cod.reps
  rw [List.length_map, List.length_range]
/-- what one more repetition makes of a level, without a fade by three integers -/
def Cod.lim3 (C : Cod) (cs : List Int) : Int × Int × Int := (cs.sum, C.lv C.low cs, C.lv C.high cs)
section
variable {P : Program} {w : World} {K : PySem.W.Frag} {mg : Str → Option Value} {base : Heap}
def sp_row_behind (K : PySem.W.Frag) : Sp := fun vs H Q _ => ∃ (c r x : V) (C : Cod) (row : List Nat) (s : Int × Int), vs = [c, r, x] ∧ C.Ok ∧ Dp K H c C.dat ∧ Dp K H r (rowI row) ∧ (∀ k ∈ row, k < C.moves.length) ∧ Dp K H x (pairI s) ∧ C.St s ∧
  ∀ z H', Same H H' → Dp K H' z (pairI (C.run s row)) → Q z H'
theorem ok_state_behind_row (T : Txt K mg) : FnOk P w K mg base CX0 5 T.f_state_behind_row T.d_state_behind_row ["coder", "row", "state"] (sp_row_behind K) := by
  refine T.F_state_behind_row.ok sc_state_behind_row (fun vs H Q E h => ?_) (fun cdv A outer s H vs Q E hr h => ?_)
  · obtain ⟨c, r, x, C, row, s, rfl, _⟩ := h
    rfl
  · obtain ⟨c, r, x, C, row, st, rfl, O, hc, hrow, R, hx, hst, q⟩ := h
    refine ⟨_,
(pss_cons (ps_set (i := 3) sc_state_behind_row.nd rfl (Or.inl rfl) (pv 2))
      (pss_cons (ps_for PassesOwn.never rfl (pi_tup (pv 1)) (pg_name (i := 4) sc_state_behind_row.nd rfl (Or.inl rfl)) (pss_one (ps_set (i := 3) sc_state_behind_row.nd rfl (Or.inl rfl) (pe_call (ok_state_behind T) (hr.mono (by decide)) (by rfl) T.g_state_behind T.F_state_behind.kp T.b_state_behind .nil pass0 (pa_cons (pv 0) (pa_cons (pv 3) (pa_cons (pv 4) pa_nil)))))))
      (pss_one (ps_ret (pv 3)))))
, ?_⟩
    obtain ⟨a, rfl, ha⟩ := row_at hrow
    refine ⟨x, rfl, .ref a, rfl, a, rfl, ⟨_, ha⟩, ?_⟩
    refine for_tup (K := K) (a := a) (xs := rowV row) (fun i σ H' => ∃ z y, σ = [some c, some (.ref a), some x, some z, y] ∧ Same H H' ∧ Dp K H' z (pairI (C.run st (row.take i)))) ⟨x, none, rfl, Same.refl H, hx⟩ ?_ ?_ ?_
    · rintro i σ H' _ ⟨_, _, _, s2, _⟩
      exact same_tup s2 ha
    · rintro i v σ H' hi ⟨z, y, rfl, s2, hz⟩
      obtain ⟨k, hk, rfl⟩ := rowV_get hi
      refine ⟨c, rfl, z, rfl, .int k, rfl, c, z, C, _, k, rfl, O, dp_same s2 _ _ hc, hz, run_St O _ hst, R k (List.mem_of_getElem? hk), fun p hp => ?_⟩
      refine ⟨.ref p, _, rfl, s2.trans (same_new hp), ?_⟩
      rw [take_snoc hk, run_snoc]
      exact dp_mkpair upd_tup
    · rintro σ H' ⟨z, y, rfl, s2, hz⟩
      have e : row.take (rowV row).length = row := by
        unfold rowV
        rw [List.length_map, List.take_length]
      rw [e] at hz
      exact ⟨z, rfl, q z H' s2 hz⟩
end
end My

namespace My
open PySem PySem.Spec PyProof.Rows L2
/-! ### what is right passes -/
def rowD (C : Cod) : PyData → Bool
  | .tuple ds => decide (ds.length ≤ 2000) && ds.all fun d => btw d 0 ((C.moves.length : Int) - 1)
  | _ => false
theorem Cod.Row.ok {C : Cod} {r : List Nat} (h : C.Row r) : rowD C (rowI r) = true := by
  show (decide _ && _) = true
  rw [decide_eq_true (by rw [List.length_map]; exact h.len), Bool.true_and, List.all_eq_true]
  intro d hd
  obtain ⟨k, hk, rfl⟩ := List.mem_map.mp hd
  have := h.lt k hk
  exact btw_in (by omega) (by omega)
section
variable {P : Program} {w : World} {K : PySem.W.Frag} {mg : Str → Option Value} {base : Heap}
end
end My

/-! refusals of rows and states -/
namespace My
open PySem PySem.Spec PyProof.Rows L2
/-- a thing handed in as a row: a tuple of data, or anything but a tuple -/
def Th (K : PySem.W.Frag) (H : Hp) (x : V) : Option (List PyData) → Prop
  | none => ∃ T : String, TyX K H x (.type T) ∧ PySem.W.kitOne K (.type T) (.type "tuple") = some false
  | some ds => Dp K H x (.tuple ds)
theorem Th.same {K : PySem.W.Frag} {H H' : Hp} {x : V} {r : Option (List PyData)} (s : Same H H') (h : Th K H x r) : Th K H' x r := by
  cases r with
  | some ds => exact dp_same s _ _ h
  | none =>
    obtain ⟨T, h1, h2⟩ := h
    refine ⟨T, ?_, h2⟩
    cases h1 with
    | base h =>
      cases h with
      | non => exact .base .non
      | bl b => exact .base (.bl b)
      | int i => exact .base (.int i)
      | str x => exact .base (.str x)
      | flt x => exact .base (.flt x)
      | lst e => exact .base (.lst (s _ _ e))
      | frz e => exact .base (.frz (s _ _ e))
      | tup e => exact .base (.tup (s _ _ e))
      | dK e => exact .base (.dK (s _ _ e))
      | dT e => exact .base (.dT (s _ _ e))
    | byt b => exact .byt b
    | set e => exact .set (s _ _ e)
    | kList e c => exact .kList e c
    | kTuple e c => exact .kTuple e c
    | kDict e c => exact .kDict e c
    | fTuple e => exact .fTuple (s _ _ e)
    | fDict e => exact .fDict (s _ _ e)
def codeD (C : Cod) (d : PyData) : Bool := btw d 0 ((C.moves.length : Int) - 1)
/-- the place of the first thing that cannot stand in a row -/
def rowBad (C : Cod) : Nat → List PyData → Option Nat
  | _, [] => none
  | i, d :: r => if (decide (i = 2000) || !codeD C d) = true then some i else rowBad C (i + 1) r
theorem rowBad_step {C : Cod} {ds : List PyData} {i : Nat} {d : PyData} (h : ds[i]? = some d) : rowBad C i (ds.drop i) = if (decide (i = 2000) || !codeD C d) = true then some i else rowBad C (i + 1) (ds.drop (i + 1)) := by
  have hi := (List.getElem?_eq_some_iff.mp h).1
  have e : ds.drop i = d :: ds.drop (i + 1) := by
    rw [List.drop_eq_getElem_cons hi]
    rw [List.getElem?_eq_getElem hi] at h
    rw [Option.some.inj h]
  rw [e]
  rfl
def rowRes (C : Cod) : Option (List PyData) → Option (Int × Int)
  | none => some (0, 0)
  | some ds => (rowBad C 0 ds).map fun (i : Nat) => ((1 : Int), (i : Int) + 1)
theorem rowRes_bad {C : Cod} {ds : List PyData} {i : Nat} (h : rowBad C 0 ds = some i) : rowRes C (some ds) = some (1, (i : Int) + 1) := by
  show (rowBad C 0 ds).map _ = _
  rw [h]
  rfl
theorem rowRes_ok {C : Cod} {ds : List PyData} (h : rowBad C 0 ds = none) : rowRes C (some ds) = none := by
  show (rowBad C 0 ds).map _ = _
  rw [h]
  rfl
theorem codeD_out {C : Cod} {d : PyData} (h : codeD C d = true) : ∃ k : Nat, d = .int (k : Int) ∧ k < C.moves.length := by
  cases d with
  | int n =>
    obtain ⟨a, b⟩ := Bool.and_eq_true_iff.mp (show (decide (0 ≤ n) && decide (n ≤ (C.moves.length : Int) - 1)) = true from h)
    have a := of_decide_eq_true a
    have b := of_decide_eq_true b
    exact ⟨n.toNat, by congr 1; omega, by omega⟩
  | _ => cases h
theorem rowBad_none {C : Cod} : ∀ {ds : List PyData} {i : Nat}, i ≤ 2000 → rowBad C i ds = none → i + ds.length ≤ 2000 ∧ ∃ row : List Nat, ds = row.map (fun k : Nat => PyData.int (k : Int)) ∧ ∀ k ∈ row, k < C.moves.length
  | [], i, hi, _ => ⟨hi, [], rfl, fun _ h => by cases h⟩
  | d :: r, i, hi, h => by
    replace h : (if (decide (i = 2000) || !codeD C d) = true then some i else rowBad C (i + 1) r) = none := h
    by_cases e : (decide (i = 2000) || !codeD C d) = true
    · rw [if_pos e] at h
      cases h
    · rw [if_neg e] at h
      have e : (decide (i = 2000) || !codeD C d) = false := by
        cases hb : (decide (i = 2000) || !codeD C d) with
        | true => exact absurd hb e
        | false => rfl
      obtain ⟨e1, e2⟩ := Bool.or_eq_false_iff.mp e
      have e1 := of_decide_eq_false e1
      have e2 : codeD C d = true := by
        cases hb : codeD C d with
        | true => rfl
        | false => rw [hb] at e2; cases e2
      obtain ⟨k, rfl, hk⟩ := codeD_out e2
      obtain ⟨h1, row, rfl, h2⟩ := rowBad_none (by omega) h
      refine ⟨by rw [List.length_cons]; omega, k :: row, rfl, fun j hj => ?_⟩
      rcases List.mem_cons.mp hj with z | z
      · rw [z]; exact hk
      · exact h2 j z
theorem rowRes_row {C : Cod} {r : Option (List PyData)} (h : rowRes C r = none) : ∃ row : List Nat, r = some (row.map (fun k : Nat => PyData.int (k : Int))) ∧ C.Row row := by
  cases r with
  | none => cases h
  | some ds =>
    have h : (rowBad C 0 ds).map (fun (i : Nat) => ((1 : Int), (i : Int) + 1)) = none := h
    cases e : rowBad C 0 ds with
    | some i => rw [e] at h; cases h
    | none =>
      obtain ⟨h1, row, rfl, h2⟩ := rowBad_none (by omega) e
      rw [List.length_map] at h1
      exact ⟨row, rfl, by omega, h2⟩
theorem stateD_out {C : Cod} {d : PyData} (h : stateD C d = true) : ∃ s, d = pairI s ∧ C.St s := by
  cases d with
  | tuple ds =>
    match ds, h with
    | [a, b], h =>
      obtain ⟨h1, h2⟩ := Bool.and_eq_true_iff.mp (show (btw a C.low C.high && btw b 0 ((C.steps.length : Int) - 1)) = true from h)
      obtain ⟨n, rfl, a1, a2⟩ := btw_out h1
      obtain ⟨p, rfl, b1, b2⟩ := btw_out h2
      exact ⟨(n, p), rfl, a1, a2, b1, by show p < C.steps.length; omega⟩
  | _ => cases h
/-- a refusal with BadRow(i, j): a new dict, all else stands -/
def RowE (C : Addr) (H : Hp) (E : XK) (i j : Int) : Prop := ∀ d H', Same H H' → H' d = some (.xd [("word", V.int j), ("row", V.int i)]) → E (.ref C) (some d) H'
theorem RowE.same {C : Addr} {H H' : Hp} {E : XK} {i j : Int} (s : Same H H') (h : RowE C H E i j) : RowE C H' E i j := fun d H'' s' hd => h d H'' (s.trans s') hd
theorem rowE_mk {C : Addr} {H : Hp} {E : XK} {i j : Int} (h : RowE C H E i j) {a d : Addr} {o1 o2 o3 o4 : HO} (ha : H a = none) (hd : upd H a o1 d = none) (n : d ≠ a) :
    E (.ref C) (some d) (upd (del (upd (upd (upd (upd H a o1) d o2) a o3) d o4) a) d (.xd [("word", V.int j), ("row", V.int i)])) := by
  rw [made2 ha n]
  have h0 : H d = none := (upd_ne n).symm.trans hd
  exact h d _ (same_new h0) upd_same
section
variable {P : Program} {w : World} {K : PySem.W.Frag} {mg : Str → Option Value} {base : Heap}
theorem okDX {x qual : Str} {params : Arguments} {body : List Stmt} {scope : Scope} {f : Addr} {fd : FuncData} {N ps : List Str} {k : Nat} {sp : Sp}
    (F : ∃ q, FunD K x qual params body scope [] [("state", V.ref q)] f fd) (S : FnScope N ps scope) (len : ∀ vs H Q E, sp vs H Q E → vs.length = ps.length)
    (hbody : ∀ (cdv : Value) (A : Around) (outer : List Env) (s : Shared) (H : Hp) (vs : List V) (Q : VK) (E : XK), Room k (A.deeper (envOfC qual scope s.heap.objs.size f cdv)) → sp vs H Q E →
      ∃ t, PSs (cxOf (L2.CX P w) P w K mg base N qual scope f cdv A outer s H E) body t ∧ t { nx := fun _ H' => Q .non H', rt := Q } (start N vs) H) : FnOk P w K mg base (L2.CX P w) (k + 1) f fd ps sp := by
  obtain ⟨q, F⟩ := F
  exact F.ok S len hbody
def sp_need_row (K : PySem.W.Frag) (BR : Addr) : Sp := fun vs H Q E => ∃ (c x : V) (C : Cod) (r : Option (List PyData)), vs = [c, x] ∧ Dp K H c C.dat ∧ Th K H x r ∧
  (rowRes C r = none → ∀ H', Same H H' → Q .non H') ∧ (∀ i j, rowRes C r = some (i, j) → RowE BR H E i j)
theorem ok_need_row (T : Txt K mg) : FnOk P w K mg base (L2.CX P w) 4 T.f_need_row T.d_need_row ["coder", "thing"] (sp_need_row K T.C_BadRow) := by
  refine T.F_need_row.okX sc_need_row (fun vs H Q E h => ?_) (fun cdv A outer s H vs Q E hr h => ?_)
  · obtain ⟨c, x, C, r, rfl, _⟩ := h
    rfl
  · obtain ⟨c, x, C, r, rfl, hc, hx, q1, q2⟩ := h
    refine ⟨_,
(pss_cons (ps_if (pt_not (pt_val (pe_callB (call_isi) (by rfl) T.z_isinstance (by decide +kernel) (pa_cons (pv 1) (pa_cons (pe_bltn (v := .ty "tuple") (by rfl) T.z_tuple (by decide +kernel) rfl) pa_nil))))) (pss_one (ps_raise rfl (takes_of rfl rfl rfl rfl) (pmk_oex T.o_BadRow T.i_BadRow T.t_BadRow (oki_BadRow T) (hr.mono (by decide)) T.bi_BadRow .nil pass0 (by rfl) T.g_BadRow (pa_cons pe_int (pa_cons pe_int pa_nil))))) pss_nil)
      (pss_one (ps_for (passes_of rfl) rfl (My.pi_enumT (by rfl) T.z_enumerate (pa_cons (pv 1) pa_nil)) (pg_tup (by rfl) (pgs_cons (pg_name (i := 2) sc_need_row.nd rfl (Or.inl rfl)) (pgs_cons (pg_name (i := 3) sc_need_row.nd rfl (Or.inl rfl)) pgs_nil))) (pss_one (ps_if (PW.pt (pw_or (pt_cmpR op_eq (pv 2) (pe_glob (v := .int 2000) (by rfl) T.g_MOST_CODES ⟨_, rfl⟩) (nomark _)) (pw_or1 (pt_not (pt_val (pe_call (ok_is_code T) (hr.mono (by decide)) (by rfl) T.g_is_code T.F_is_code.kp T.b_is_code .nil pass0 (pa_cons (pv 0) (pa_cons (pv 3) pa_nil)))))))) (pss_one (ps_raise rfl (takes_of rfl rfl rfl rfl) (pmk_oex T.o_BadRow T.i_BadRow T.t_BadRow (oki_BadRow T) (hr.mono (by decide)) T.bi_BadRow .nil pass0 (by rfl) T.g_BadRow (pa_cons pe_int (pa_cons (pe_op op_add (pv 2) pe_int) pa_nil))))) pss_nil)))))
, ?_⟩
    cases r with
    | none =>
      obtain ⟨TT, t1, t2⟩ := hx
      refine ⟨x, rfl, x, .ty "tuple", _, _, _, rfl, .ty _, t1, t2, _, rfl, ?_⟩
      refine iteT ?_
      refine ⟨by decide, fun a ha => ⟨a, .int 0, .int 0, rfl, upd_same, fun d hd n => ⟨rfl, d, _, (upd_ne n.symm).trans upd_same, upd_same, (upd_ne n).symm.trans hd, rowE_mk (q2 0 0 rfl) ha hd n⟩⟩⟩
    | some ds =>
      have hd : Dp K H x (.tuple ds) := hx
      refine ⟨x, rfl, x, .ty "tuple", _, _, _, rfl, .ty _, tyx hd, kitT _, _, rfl, ?_⟩
      refine iteF ?_
      obtain ⟨a, xs, rfl, ha, hds⟩ := dp_tup hd
      have hlx := dpAll_len hds
      refine ⟨.ref a, rfl, a, xs, rfl, ha, ?_⟩
      refine for_enumT (K := K) (a := a) (xs := xs) (fun i σ H' => ∃ y1 y2, σ = [some c, some (.ref a), y1, y2] ∧ Same H H' ∧ rowBad C 0 ds = rowBad C i (ds.drop i)) ⟨none, none, rfl, Same.refl H, rfl⟩ ?_ ?_ ?_
      · rintro i σ H' _ ⟨_, _, _, s2, _⟩
        exact same_tup s2 ha
      · rintro i v σ H' p hi ⟨y1, y2, rfl, s2, hbad⟩ hp
        obtain ⟨dv, hdv, hv⟩ := dpAll_get hds hi
        rw [rowBad_step hdv] at hbad
        have s3 := s2.trans (same_new (o := .tup [.int (i : Nat), v]) hp)
        refine ⟨p, _, rfl, upd_tup, rfl, _, _, rfl, _, _, rfl, rfl, ?_⟩
        generalize upd H' p (.tup [.int (i : Nat), v]) = H2 at s3
        have raise : ∀ H3, Same H H3 → rowBad C 0 ds = some i → (([V.int 1, V.int ((i : Int) + 1)] : List V).length ≤ 1000 ∧ ∀ a', H3 a' = none →
            sp_init2 T.C_BadRow "row" "word" (.ref a' :: ([V.int 1, V.int ((i : Int) + 1)] ++ [])) (upd H3 a' (exo a' T.C_BadRow none)) (fun v H2 => v = .non ∧ ∃ (d : Addr) (fs : List (Str × V)), H2 a' = some (exo a' T.C_BadRow (some d)) ∧ H2 d = some (exd d fs) ∧ H3 d = none ∧
              E (.ref T.C_BadRow) (some d) (upd (del H2 a') d (.xd fs))) (fun _ _ _ => False)) := fun H3 s3 hb =>
          ⟨by show 2 ≤ 1000; decide, fun a' ha' => ⟨a', .int 1, .int ((i : Int) + 1), rfl, upd_same, fun d hd n => ⟨rfl, d, _, (upd_ne n.symm).trans upd_same, upd_same, (upd_ne n).symm.trans hd, rowE_mk ((q2 1 ((i : Int) + 1) (rowRes_bad hb)).same s3) ha' hd n⟩⟩⟩
        refine ⟨_, rfl, rfl, _, rfl, ?_⟩
        show if decide (V.int (i : Int) = V.int 2000) = true then _ else _
        by_cases e : i = 2000
        · have e1 : decide (V.int (i : Int) = V.int 2000) = true := by rw [e]; rfl
          rw [e1]
          refine iteT (iteT ?_)
          refine ⟨_, rfl, _, _, rfl, rfl, raise H2 s3 ?_⟩
          rw [hbad, decide_eq_true e]
          rfl
        · have e1 : decide (V.int (i : Int) = V.int 2000) = false := decide_eq_false fun z => by
            have := V.int.inj z
            omega
          rw [e1]
          refine iteF ?_
          refine ⟨_, rfl, _, rfl, c, v, C, dv, rfl, dp_same s3 _ _ hc, dp_same s3 _ _ hv, fun H3 s4 => ⟨_, rfl, ?_⟩⟩
          rw [decide_eq_false e, Bool.false_or] at hbad
          cases hg : codeD C dv with
          | true =>
            rw [hg] at hbad
            have hg' : btw dv 0 ((C.moves.length : Int) - 1) = true := hg
            rw [hg']
            refine iteF ?_
            exact ⟨_, _, rfl, s3.trans s4, hbad⟩
          | false =>
            rw [hg] at hbad
            have hg' : btw dv 0 ((C.moves.length : Int) - 1) = false := hg
            rw [hg']
            refine iteT ?_
            exact ⟨_, rfl, _, _, rfl, rfl, raise H3 (s3.trans s4) hbad⟩
      · rintro σ H' ⟨_, _, rfl, s2, hbad⟩
        refine q1 (rowRes_ok ?_) H' s2
        rw [hbad, hlx, List.drop_length]
        rfl
/-- a refusal with OutOfPlace: the heap stands -/
def spNeed (K : PySem.W.Frag) (O : Addr) (f : Cod → PyData → Bool) : Sp := fun vs H Q E => ∃ (c x : V) (C : Cod) (d : PyData), vs = [c, x] ∧ Dp K H c C.dat ∧ Dp K H x d ∧
  (f C d = true → ∀ H', Same H H' → Q .non H') ∧ (f C d = false → ∀ H', Same H H' → E (.ref O) none H')
theorem ok_need_state (T : Txt K mg) : FnOk P w K mg base (L2.CX P w) 5 T.f_need_state T.d_need_state ["coder", "thing"] (spNeed K T.C_OutOfPlace stateD) := by
  refine T.F_need_state.okX sc_need_state (fun vs H Q E h => ?_) (fun cdv A outer s H vs Q E hr h => ?_)
  · obtain ⟨c, x, C, d, rfl, _⟩ := h
    rfl
  · obtain ⟨c, x, C, d, rfl, hc, hd, q1, q2⟩ := h
    refine ⟨_,
(pss_one (ps_if (pt_not (pt_val (pe_call (ok_is_state T) (hr.mono (by decide)) (by rfl) T.g_is_state T.F_is_state.kp T.b_is_state .nil pass0 (pa_cons (pv 0) (pa_cons (pv 1) pa_nil))))) (pss_one (ps_raise rfl (takes_of rfl rfl rfl rfl) (My.pmk0 T.o_OutOfPlace T.i_OutOfPlace T.t_OutOfPlace (oki_OutOfPlace T) (hr.mono (by decide)) T.bi_OutOfPlace T.g_OutOfPlace (pa_cons pe_str pa_nil)))) pss_nil))
, ?_⟩
    refine ⟨_, rfl, _, rfl, c, x, C, d, rfl, hc, hd, fun H1 s1 => ⟨_, rfl, ?_⟩⟩
    cases h0 : stateD C d with
    | true => exact iteF (q1 h0 H1 s1)
    | false =>
      refine iteT ?_
      refine ⟨by decide, fun a ha => ⟨a, _, rfl, upd_same, rfl, upd_same, ?_⟩⟩
      rw [del_new ha]
      exact q2 h0 H1 s1
end
end My

/-! _law_outcome(lambda: ..): what is raised is told. -/
namespace My
open PySem PySem.Spec PyProof.Rows L2 LamX
/-! rules within a lambda: the written part by its own name -/
theorem op_catAK {X : Cx} {K : PySem.W.Frag} (h : X.K = K := by rfl) : OpR X (binaryOp .Add) (rCatA K) := by
  subst h
  exact op_catA
theorem sl_tupAK {X : Cx} {K : PySem.W.Frag} (h : X.K = K := by rfl) : SlR X (rSlA K) := by
  subst h
  exact sl_tupA
def rListOf (K : PySem.W.Frag) : List V → Hp → VK → Prop := fun xs H Q => ∃ p ys, xs = [.ref p] ∧ (SqL K H p ys ∨ SqT K H p ys) ∧ ∀ l, H l = none → Q (.ref l) (upd H l (.lst ys))
theorem call_list_ofK {X : Cx} {K : PySem.W.Frag} (h : X.K = K := by rfl) : CallR X (.type "list") (rListOf K) := by
  subst h
  exact call_list_of
inductive Fl
  | coder (p n : PyData)
  | row (i j : PyData)
  | paper (p n : PyData)
  | byte (n : PyData)
  | great (n : PyData)
  | place
  | seam
  | nothing
def Fl.dat : Fl → PyData
  | .coder p n => .tuple [.str "coder", p, n]
  | .row i j => .tuple [.str "row", i, j]
  | .paper p n => .tuple [.str "paper", p, n]
  | .byte n => .tuple [.str "byte", n]
  | .great n => .tuple [.str "great", n]
  | .place => .tuple [.str "place", .none]
  | .seam => .tuple [.str "seam", .none]
  | .nothing => .tuple [.str "nothing", .none]
section
variable {P : Program} {w : World} {K : PySem.W.Frag} {mg : Str → Option Value} {base : Heap}
/-- what the exception of that class, with that dict, tells -/
def IsFl (T : Txt K mg) (cls : Value) (d : Option Addr) (H : Hp) : Fl → Prop
  | .coder p n => cls = .ref T.C_BadCoder ∧ ∃ dd vp vn, d = some dd ∧ H dd = some (.xd [("number", vn), ("part", vp)]) ∧ Dp K H vp p ∧ Dp K H vn n
  | .row p n => cls = .ref T.C_BadRow ∧ ∃ dd vp vn, d = some dd ∧ H dd = some (.xd [("word", vn), ("row", vp)]) ∧ Dp K H vp p ∧ Dp K H vn n
  | .great n => cls = .ref T.C_TooGreat ∧ ∃ dd vn, d = some dd ∧ H dd = some (.xd [("most", vn)]) ∧ Dp K H vn n
  | .place => cls = .ref T.C_OutOfPlace ∧ d = none
  | .seam => cls = .ref T.C_NoSeam ∧ d = none
  | _ => False
def sp_law_fault (T : Txt K mg) : Sp := fun vs H Q _ => ∃ (a : Addr) (D : Addr) (d : Option Addr) (f : Fl), vs = [.ref a] ∧ Exc H a D d ∧ IsFl T (.ref D) d H f ∧ ∀ z H', Same H H' → Dp K H' z f.dat → Q z H'
theorem ok_law_fault (T : Txt K mg) : FnOk P w K mg base CX0 2 T.f__law_fault T.d__law_fault ["e"] (sp_law_fault T) := by
  refine T.F__law_fault.ok sc_law_fault (fun vs H Q E h => ?_) (fun cdv A outer s H vs Q E hr h => ?_)
  · obtain ⟨a, D, d, f, rfl, _⟩ := h
    rfl
  · obtain ⟨a, D, d, f, rfl, he, hf, kq⟩ := h
    refine ⟨_,
(pss_cons (ps_set (i := 1) sc_law_fault.nd rfl (Or.inl rfl) (pe_lst pa_nil))
      (pss_cons (ps_if (pt_val (pe_callB (My.call_isT) (by rfl) T.z_isinstance (by decide +kernel) (pa_cons (pv 0) (pa_cons (pe_glob (v := .ref T.C_BadCoder) (by rfl) T.g_BadCoder rfl) pa_nil)))) (pss_one (ps_expr (pe_bm PySem.F.plainAttrs_list PySem.F.slot_list_append PySem.F.type_list_append mt_append (pv 1) (pa_cons (pe_tup (pa_cons pe_str (pa_cons (My.pe_xfT (pv 0)) (pa_cons (My.pe_xfT (pv 0)) pa_nil)))) pa_nil)))) pss_nil)
      (pss_cons (ps_if (pt_val (pe_callB (My.call_isT) (by rfl) T.z_isinstance (by decide +kernel) (pa_cons (pv 0) (pa_cons (pe_glob (v := .ref T.C_BadRow) (by rfl) T.g_BadRow rfl) pa_nil)))) (pss_one (ps_expr (pe_bm PySem.F.plainAttrs_list PySem.F.slot_list_append PySem.F.type_list_append mt_append (pv 1) (pa_cons (pe_tup (pa_cons pe_str (pa_cons (My.pe_xfT (pv 0)) (pa_cons (My.pe_xfT (pv 0)) pa_nil)))) pa_nil)))) pss_nil)
      (pss_cons (ps_if (pt_val (pe_callB (My.call_isT) (by rfl) T.z_isinstance (by decide +kernel) (pa_cons (pv 0) (pa_cons (pe_glob (v := .ref T.C_BadPaper) (by rfl) T.g_BadPaper rfl) pa_nil)))) (pss_one (ps_expr (pe_bm PySem.F.plainAttrs_list PySem.F.slot_list_append PySem.F.type_list_append mt_append (pv 1) (pa_cons (pe_tup (pa_cons pe_str (pa_cons (My.pe_xfT (pv 0)) (pa_cons (My.pe_xfT (pv 0)) pa_nil)))) pa_nil)))) pss_nil)
      (pss_cons (ps_if (pt_val (pe_callB (My.call_isT) (by rfl) T.z_isinstance (by decide +kernel) (pa_cons (pv 0) (pa_cons (pe_glob (v := .ref T.C_BadByte) (by rfl) T.g_BadByte rfl) pa_nil)))) (pss_one (ps_expr (pe_bm PySem.F.plainAttrs_list PySem.F.slot_list_append PySem.F.type_list_append mt_append (pv 1) (pa_cons (pe_tup (pa_cons pe_str (pa_cons (My.pe_xfT (pv 0)) pa_nil))) pa_nil)))) pss_nil)
      (pss_cons (ps_if (pt_val (pe_callB (My.call_isT) (by rfl) T.z_isinstance (by decide +kernel) (pa_cons (pv 0) (pa_cons (pe_glob (v := .ref T.C_TooGreat) (by rfl) T.g_TooGreat rfl) pa_nil)))) (pss_one (ps_expr (pe_bm PySem.F.plainAttrs_list PySem.F.slot_list_append PySem.F.type_list_append mt_append (pv 1) (pa_cons (pe_tup (pa_cons pe_str (pa_cons (My.pe_xfT (pv 0)) pa_nil))) pa_nil)))) pss_nil)
      (pss_cons (ps_if (pt_val (pe_callB (My.call_isT) (by rfl) T.z_isinstance (by decide +kernel) (pa_cons (pv 0) (pa_cons (pe_glob (v := .ref T.C_OutOfPlace) (by rfl) T.g_OutOfPlace rfl) pa_nil)))) (pss_one (ps_expr (pe_bm PySem.F.plainAttrs_list PySem.F.slot_list_append PySem.F.type_list_append mt_append (pv 1) (pa_cons (pe_tup (pa_cons pe_str (pa_cons pe_non pa_nil))) pa_nil)))) pss_nil)
      (pss_cons (ps_if (pt_val (pe_callB (My.call_isT) (by rfl) T.z_isinstance (by decide +kernel) (pa_cons (pv 0) (pa_cons (pe_glob (v := .ref T.C_NoSeam) (by rfl) T.g_NoSeam rfl) pa_nil)))) (pss_one (ps_expr (pe_bm PySem.F.plainAttrs_list PySem.F.slot_list_append PySem.F.type_list_append mt_append (pv 1) (pa_cons (pe_tup (pa_cons pe_str (pa_cons pe_non pa_nil))) pa_nil)))) pss_nil)
      (pss_cons (ps_if (pt_val (pe_callB (My.call_isT) (by rfl) T.z_isinstance (by decide +kernel) (pa_cons (pv 0) (pa_cons (pe_glob (v := .ref T.C_Nothing) (by rfl) T.g_Nothing rfl) pa_nil)))) (pss_one (ps_expr (pe_bm PySem.F.plainAttrs_list PySem.F.slot_list_append PySem.F.type_list_append mt_append (pv 1) (pa_cons (pe_tup (pa_cons pe_str (pa_cons pe_non pa_nil))) pa_nil)))) pss_nil)
      (pss_one (ps_ret (pe_ifExp (pt_cmpR op_eq (pe_callB (call_len_seq) (by rfl) T.z_len (by decide +kernel) (pa_cons (pv 1) pa_nil)) pe_int (nomark _)) (pe_ix ix_list (pv 1) pe_int (fun _ _ => rfl)) (pe_tup (pa_cons pe_str (pa_cons pe_non pa_nil)))))))))))))))
, ?_⟩
    refine ⟨by decide, fun p hp => ?_⟩
    cases f with
    | coder fv gv =>
      obtain ⟨e, dd, v0, v1, rfl, hd, h0, h1⟩ := hf
      cases e
      have hx0 : ∀ x, some dd = some x → ∃ fs, H x = some (.xd fs) := fun x e => ⟨_, by cases e; exact hd⟩
      obtain ⟨k0, k1, k2, k3, k4, k5, k6, k7, _⟩ := T.ks_BadCoder
      have s1 : Same H (upd H p (.lst [])) := same_new hp
      have p1 : upd H p (.lst []) p = some (.lst []) := upd_same
      generalize upd H p (.lst []) = H1 at s1 p1
      have he1 : Exc H1 a T.C_BadCoder _ := s1 _ _ he
      have hx1 := fun x e => (hx0 x e).imp fun _ z => s1 _ _ z
      refine ⟨_, rfl, _, _, _, _, _, _, rfl, he1, hx1, T.X_BadCoder, fun _ r => r, k0, _, rfl, iteT ?_⟩
      refine ⟨_, rfl, .inl ⟨rfl, _, SqL.of p1⟩, _, rfl, _, _, _, _, _, rfl, he1, s1 _ _ hd, T.x_BadCoder, T.n_BadCoder_part, rfl, _, rfl, _, _, _, _, _, rfl, he1, s1 _ _ hd, T.x_BadCoder, T.n_BadCoder_number, rfl, by show 3 ≤ sizeLine; decide, fun q hq => ⟨p, _, _, rfl, rfl, (upd_ne (ne_of_none p1 hq)).trans p1, by show 0 + 1 ≤ sizeLine; decide, ?_⟩⟩
      have nqp : q ≠ p := fun z => by rw [z, p1] at hq; cases hq
      have s2 : Same H (upd (upd H1 q (.tup [.str "coder", v0, v1])) p (.lst ([] ++ [V.ref q]))) := fun b o e => by
        have nb : b ≠ p := fun z => by rw [z, hp] at e; cases e
        rw [upd_ne nb]
        exact same_new hq _ _ (s1 _ _ e)
      have p2 : upd (upd H1 q (.tup [.str "coder", v0, v1])) p (.lst ([] ++ [V.ref q])) p = some (.lst [V.ref q]) := upd_same
      have q2 : upd (upd H1 q (.tup [.str "coder", v0, v1])) p (.lst ([] ++ [V.ref q])) q = some (.tup [.str "coder", v0, v1]) := (upd_ne nqp).trans upd_same
      generalize upd (upd H1 q (.tup [.str "coder", v0, v1])) p (.lst ([] ++ [V.ref q])) = H2 at s2 p2 q2
      have he2 : Exc H2 a T.C_BadCoder _ := s2 _ _ he
      have hx2 := fun x e => (hx0 x e).imp fun _ z => s2 _ _ z
      refine ⟨_, rfl, _, _, _, _, _, _, rfl, he2, hx2, T.X_BadCoder, fun _ r => r, k1, _, rfl, iteF ?_⟩
      refine ⟨_, rfl, _, _, _, _, _, _, rfl, he2, hx2, T.X_BadCoder, fun _ r => r, k2, _, rfl, iteF ?_⟩
      refine ⟨_, rfl, _, _, _, _, _, _, rfl, he2, hx2, T.X_BadCoder, fun _ r => r, k3, _, rfl, iteF ?_⟩
      refine ⟨_, rfl, _, _, _, _, _, _, rfl, he2, hx2, T.X_BadCoder, fun _ r => r, k4, _, rfl, iteF ?_⟩
      refine ⟨_, rfl, _, _, _, _, _, _, rfl, he2, hx2, T.X_BadCoder, fun _ r => r, k5, _, rfl, iteF ?_⟩
      refine ⟨_, rfl, _, _, _, _, _, _, rfl, he2, hx2, T.X_BadCoder, fun _ r => r, k6, _, rfl, iteF ?_⟩
      refine ⟨_, rfl, _, _, _, _, _, _, rfl, he2, hx2, T.X_BadCoder, fun _ r => r, k7, _, rfl, iteF ?_⟩
      refine ⟨_, rfl, p, _, rfl, .inl (SqL.of p2), rfl, _, rfl, iteT ?_⟩
      exact ⟨_, rfl, p, _, 0, _, rfl, rfl, SqL.of p2, atI_nat (j := 0) rfl, kq _ H2 s2 (.tup (.inl (.inl q2)) (.cons (.str _) (.cons (dp_same s2 _ _ h0) (.cons (dp_same s2 _ _ h1) .nil))))⟩
    | row fv gv =>
      obtain ⟨e, dd, v0, v1, rfl, hd, h0, h1⟩ := hf
      cases e
      have hx0 : ∀ x, some dd = some x → ∃ fs, H x = some (.xd fs) := fun x e => ⟨_, by cases e; exact hd⟩
      obtain ⟨k0, k1, k2, k3, k4, k5, k6, k7, _⟩ := T.ks_BadRow
      have s1 : Same H (upd H p (.lst [])) := same_new hp
      have p1 : upd H p (.lst []) p = some (.lst []) := upd_same
      generalize upd H p (.lst []) = H1 at s1 p1
      have he1 : Exc H1 a T.C_BadRow _ := s1 _ _ he
      have hx1 := fun x e => (hx0 x e).imp fun _ z => s1 _ _ z
      refine ⟨_, rfl, _, _, _, _, _, _, rfl, he1, hx1, T.X_BadRow, fun _ r => r, k0, _, rfl, iteF ?_⟩
      refine ⟨_, rfl, _, _, _, _, _, _, rfl, he1, hx1, T.X_BadRow, fun _ r => r, k1, _, rfl, iteT ?_⟩
      refine ⟨_, rfl, .inl ⟨rfl, _, SqL.of p1⟩, _, rfl, _, _, _, _, _, rfl, he1, s1 _ _ hd, T.x_BadRow, T.n_BadRow_row, rfl, _, rfl, _, _, _, _, _, rfl, he1, s1 _ _ hd, T.x_BadRow, T.n_BadRow_word, rfl, by show 3 ≤ sizeLine; decide, fun q hq => ⟨p, _, _, rfl, rfl, (upd_ne (ne_of_none p1 hq)).trans p1, by show 0 + 1 ≤ sizeLine; decide, ?_⟩⟩
      have nqp : q ≠ p := fun z => by rw [z, p1] at hq; cases hq
      have s2 : Same H (upd (upd H1 q (.tup [.str "row", v0, v1])) p (.lst ([] ++ [V.ref q]))) := fun b o e => by
        have nb : b ≠ p := fun z => by rw [z, hp] at e; cases e
        rw [upd_ne nb]
        exact same_new hq _ _ (s1 _ _ e)
      have p2 : upd (upd H1 q (.tup [.str "row", v0, v1])) p (.lst ([] ++ [V.ref q])) p = some (.lst [V.ref q]) := upd_same
      have q2 : upd (upd H1 q (.tup [.str "row", v0, v1])) p (.lst ([] ++ [V.ref q])) q = some (.tup [.str "row", v0, v1]) := (upd_ne nqp).trans upd_same
      generalize upd (upd H1 q (.tup [.str "row", v0, v1])) p (.lst ([] ++ [V.ref q])) = H2 at s2 p2 q2
      have he2 : Exc H2 a T.C_BadRow _ := s2 _ _ he
      have hx2 := fun x e => (hx0 x e).imp fun _ z => s2 _ _ z
      refine ⟨_, rfl, _, _, _, _, _, _, rfl, he2, hx2, T.X_BadRow, fun _ r => r, k2, _, rfl, iteF ?_⟩
      refine ⟨_, rfl, _, _, _, _, _, _, rfl, he2, hx2, T.X_BadRow, fun _ r => r, k3, _, rfl, iteF ?_⟩
      refine ⟨_, rfl, _, _, _, _, _, _, rfl, he2, hx2, T.X_BadRow, fun _ r => r, k4, _, rfl, iteF ?_⟩
      refine ⟨_, rfl, _, _, _, _, _, _, rfl, he2, hx2, T.X_BadRow, fun _ r => r, k5, _, rfl, iteF ?_⟩
      refine ⟨_, rfl, _, _, _, _, _, _, rfl, he2, hx2, T.X_BadRow, fun _ r => r, k6, _, rfl, iteF ?_⟩
      refine ⟨_, rfl, _, _, _, _, _, _, rfl, he2, hx2, T.X_BadRow, fun _ r => r, k7, _, rfl, iteF ?_⟩
      refine ⟨_, rfl, p, _, rfl, .inl (SqL.of p2), rfl, _, rfl, iteT ?_⟩
      exact ⟨_, rfl, p, _, 0, _, rfl, rfl, SqL.of p2, atI_nat (j := 0) rfl, kq _ H2 s2 (.tup (.inl (.inl q2)) (.cons (.str _) (.cons (dp_same s2 _ _ h0) (.cons (dp_same s2 _ _ h1) .nil))))⟩
    | great fv =>
      obtain ⟨e, dd, v0, rfl, hd, h0⟩ := hf
      cases e
      have hx0 : ∀ x, some dd = some x → ∃ fs, H x = some (.xd fs) := fun x e => ⟨_, by cases e; exact hd⟩
      obtain ⟨k0, k1, k2, k3, k4, k5, k6, k7, _⟩ := T.ks_TooGreat
      have s1 : Same H (upd H p (.lst [])) := same_new hp
      have p1 : upd H p (.lst []) p = some (.lst []) := upd_same
      generalize upd H p (.lst []) = H1 at s1 p1
      have he1 : Exc H1 a T.C_TooGreat _ := s1 _ _ he
      have hx1 := fun x e => (hx0 x e).imp fun _ z => s1 _ _ z
      refine ⟨_, rfl, _, _, _, _, _, _, rfl, he1, hx1, T.X_TooGreat, fun _ r => r, k0, _, rfl, iteF ?_⟩
      refine ⟨_, rfl, _, _, _, _, _, _, rfl, he1, hx1, T.X_TooGreat, fun _ r => r, k1, _, rfl, iteF ?_⟩
      refine ⟨_, rfl, _, _, _, _, _, _, rfl, he1, hx1, T.X_TooGreat, fun _ r => r, k2, _, rfl, iteF ?_⟩
      refine ⟨_, rfl, _, _, _, _, _, _, rfl, he1, hx1, T.X_TooGreat, fun _ r => r, k3, _, rfl, iteF ?_⟩
      refine ⟨_, rfl, _, _, _, _, _, _, rfl, he1, hx1, T.X_TooGreat, fun _ r => r, k4, _, rfl, iteT ?_⟩
      refine ⟨_, rfl, .inl ⟨rfl, _, SqL.of p1⟩, _, rfl, _, _, _, _, _, rfl, he1, s1 _ _ hd, T.x_TooGreat, T.n_TooGreat_most, rfl, by show 2 ≤ sizeLine; decide, fun q hq => ⟨p, _, _, rfl, rfl, (upd_ne (ne_of_none p1 hq)).trans p1, by show 0 + 1 ≤ sizeLine; decide, ?_⟩⟩
      have nqp : q ≠ p := fun z => by rw [z, p1] at hq; cases hq
      have s2 : Same H (upd (upd H1 q (.tup [.str "great", v0])) p (.lst ([] ++ [V.ref q]))) := fun b o e => by
        have nb : b ≠ p := fun z => by rw [z, hp] at e; cases e
        rw [upd_ne nb]
        exact same_new hq _ _ (s1 _ _ e)
      have p2 : upd (upd H1 q (.tup [.str "great", v0])) p (.lst ([] ++ [V.ref q])) p = some (.lst [V.ref q]) := upd_same
      have q2 : upd (upd H1 q (.tup [.str "great", v0])) p (.lst ([] ++ [V.ref q])) q = some (.tup [.str "great", v0]) := (upd_ne nqp).trans upd_same
      generalize upd (upd H1 q (.tup [.str "great", v0])) p (.lst ([] ++ [V.ref q])) = H2 at s2 p2 q2
      have he2 : Exc H2 a T.C_TooGreat _ := s2 _ _ he
      have hx2 := fun x e => (hx0 x e).imp fun _ z => s2 _ _ z
      refine ⟨_, rfl, _, _, _, _, _, _, rfl, he2, hx2, T.X_TooGreat, fun _ r => r, k5, _, rfl, iteF ?_⟩
      refine ⟨_, rfl, _, _, _, _, _, _, rfl, he2, hx2, T.X_TooGreat, fun _ r => r, k6, _, rfl, iteF ?_⟩
      refine ⟨_, rfl, _, _, _, _, _, _, rfl, he2, hx2, T.X_TooGreat, fun _ r => r, k7, _, rfl, iteF ?_⟩
      refine ⟨_, rfl, p, _, rfl, .inl (SqL.of p2), rfl, _, rfl, iteT ?_⟩
      exact ⟨_, rfl, p, _, 0, _, rfl, rfl, SqL.of p2, atI_nat (j := 0) rfl, kq _ H2 s2 (.tup (.inl (.inl q2)) (.cons (.str _) (.cons (dp_same s2 _ _ h0) .nil)))⟩
    | place  =>
      obtain ⟨e, rfl⟩ := hf
      cases e
      have hx0 : ∀ x, (none : Option Addr) = some x → ∃ fs, H x = some (.xd fs) := fun x e => by cases e
      obtain ⟨k0, k1, k2, k3, k4, k5, k6, k7, _⟩ := T.ks_OutOfPlace
      have s1 : Same H (upd H p (.lst [])) := same_new hp
      have p1 : upd H p (.lst []) p = some (.lst []) := upd_same
      generalize upd H p (.lst []) = H1 at s1 p1
      have he1 : Exc H1 a T.C_OutOfPlace _ := s1 _ _ he
      have hx1 := fun x e => (hx0 x e).imp fun _ z => s1 _ _ z
      refine ⟨_, rfl, _, _, _, _, _, _, rfl, he1, hx1, T.X_OutOfPlace, fun _ r => r, k0, _, rfl, iteF ?_⟩
      refine ⟨_, rfl, _, _, _, _, _, _, rfl, he1, hx1, T.X_OutOfPlace, fun _ r => r, k1, _, rfl, iteF ?_⟩
      refine ⟨_, rfl, _, _, _, _, _, _, rfl, he1, hx1, T.X_OutOfPlace, fun _ r => r, k2, _, rfl, iteF ?_⟩
      refine ⟨_, rfl, _, _, _, _, _, _, rfl, he1, hx1, T.X_OutOfPlace, fun _ r => r, k3, _, rfl, iteF ?_⟩
      refine ⟨_, rfl, _, _, _, _, _, _, rfl, he1, hx1, T.X_OutOfPlace, fun _ r => r, k4, _, rfl, iteF ?_⟩
      refine ⟨_, rfl, _, _, _, _, _, _, rfl, he1, hx1, T.X_OutOfPlace, fun _ r => r, k5, _, rfl, iteT ?_⟩
      refine ⟨_, rfl, .inl ⟨rfl, _, SqL.of p1⟩, by show 2 ≤ sizeLine; decide, fun q hq => ⟨p, _, _, rfl, rfl, (upd_ne (ne_of_none p1 hq)).trans p1, by show 0 + 1 ≤ sizeLine; decide, ?_⟩⟩
      have nqp : q ≠ p := fun z => by rw [z, p1] at hq; cases hq
      have s2 : Same H (upd (upd H1 q (.tup [.str "place", .non])) p (.lst ([] ++ [V.ref q]))) := fun b o e => by
        have nb : b ≠ p := fun z => by rw [z, hp] at e; cases e
        rw [upd_ne nb]
        exact same_new hq _ _ (s1 _ _ e)
      have p2 : upd (upd H1 q (.tup [.str "place", .non])) p (.lst ([] ++ [V.ref q])) p = some (.lst [V.ref q]) := upd_same
      have q2 : upd (upd H1 q (.tup [.str "place", .non])) p (.lst ([] ++ [V.ref q])) q = some (.tup [.str "place", .non]) := (upd_ne nqp).trans upd_same
      generalize upd (upd H1 q (.tup [.str "place", .non])) p (.lst ([] ++ [V.ref q])) = H2 at s2 p2 q2
      have he2 : Exc H2 a T.C_OutOfPlace _ := s2 _ _ he
      have hx2 := fun x e => (hx0 x e).imp fun _ z => s2 _ _ z
      refine ⟨_, rfl, _, _, _, _, _, _, rfl, he2, hx2, T.X_OutOfPlace, fun _ r => r, k6, _, rfl, iteF ?_⟩
      refine ⟨_, rfl, _, _, _, _, _, _, rfl, he2, hx2, T.X_OutOfPlace, fun _ r => r, k7, _, rfl, iteF ?_⟩
      refine ⟨_, rfl, p, _, rfl, .inl (SqL.of p2), rfl, _, rfl, iteT ?_⟩
      exact ⟨_, rfl, p, _, 0, _, rfl, rfl, SqL.of p2, atI_nat (j := 0) rfl, kq _ H2 s2 (.tup (.inl (.inl q2)) (.cons (.str _) (.cons (.non) .nil)))⟩
    | seam  =>
      obtain ⟨e, rfl⟩ := hf
      cases e
      have hx0 : ∀ x, (none : Option Addr) = some x → ∃ fs, H x = some (.xd fs) := fun x e => by cases e
      obtain ⟨k0, k1, k2, k3, k4, k5, k6, k7, _⟩ := T.ks_NoSeam
      have s1 : Same H (upd H p (.lst [])) := same_new hp
      have p1 : upd H p (.lst []) p = some (.lst []) := upd_same
      generalize upd H p (.lst []) = H1 at s1 p1
      have he1 : Exc H1 a T.C_NoSeam _ := s1 _ _ he
      have hx1 := fun x e => (hx0 x e).imp fun _ z => s1 _ _ z
      refine ⟨_, rfl, _, _, _, _, _, _, rfl, he1, hx1, T.X_NoSeam, fun _ r => r, k0, _, rfl, iteF ?_⟩
      refine ⟨_, rfl, _, _, _, _, _, _, rfl, he1, hx1, T.X_NoSeam, fun _ r => r, k1, _, rfl, iteF ?_⟩
      refine ⟨_, rfl, _, _, _, _, _, _, rfl, he1, hx1, T.X_NoSeam, fun _ r => r, k2, _, rfl, iteF ?_⟩
      refine ⟨_, rfl, _, _, _, _, _, _, rfl, he1, hx1, T.X_NoSeam, fun _ r => r, k3, _, rfl, iteF ?_⟩
      refine ⟨_, rfl, _, _, _, _, _, _, rfl, he1, hx1, T.X_NoSeam, fun _ r => r, k4, _, rfl, iteF ?_⟩
      refine ⟨_, rfl, _, _, _, _, _, _, rfl, he1, hx1, T.X_NoSeam, fun _ r => r, k5, _, rfl, iteF ?_⟩
      refine ⟨_, rfl, _, _, _, _, _, _, rfl, he1, hx1, T.X_NoSeam, fun _ r => r, k6, _, rfl, iteT ?_⟩
      refine ⟨_, rfl, .inl ⟨rfl, _, SqL.of p1⟩, by show 2 ≤ sizeLine; decide, fun q hq => ⟨p, _, _, rfl, rfl, (upd_ne (ne_of_none p1 hq)).trans p1, by show 0 + 1 ≤ sizeLine; decide, ?_⟩⟩
      have nqp : q ≠ p := fun z => by rw [z, p1] at hq; cases hq
      have s2 : Same H (upd (upd H1 q (.tup [.str "seam", .non])) p (.lst ([] ++ [V.ref q]))) := fun b o e => by
        have nb : b ≠ p := fun z => by rw [z, hp] at e; cases e
        rw [upd_ne nb]
        exact same_new hq _ _ (s1 _ _ e)
      have p2 : upd (upd H1 q (.tup [.str "seam", .non])) p (.lst ([] ++ [V.ref q])) p = some (.lst [V.ref q]) := upd_same
      have q2 : upd (upd H1 q (.tup [.str "seam", .non])) p (.lst ([] ++ [V.ref q])) q = some (.tup [.str "seam", .non]) := (upd_ne nqp).trans upd_same
      generalize upd (upd H1 q (.tup [.str "seam", .non])) p (.lst ([] ++ [V.ref q])) = H2 at s2 p2 q2
      have he2 : Exc H2 a T.C_NoSeam _ := s2 _ _ he
      have hx2 := fun x e => (hx0 x e).imp fun _ z => s2 _ _ z
      refine ⟨_, rfl, _, _, _, _, _, _, rfl, he2, hx2, T.X_NoSeam, fun _ r => r, k7, _, rfl, iteF ?_⟩
      refine ⟨_, rfl, p, _, rfl, .inl (SqL.of p2), rfl, _, rfl, iteT ?_⟩
      exact ⟨_, rfl, p, _, 0, _, rfl, rfl, SqL.of p2, atI_nat (j := 0) rfl, kq _ H2 s2 (.tup (.inl (.inl q2)) (.cons (.str _) (.cons (.non) .nil)))⟩
    | _ => exact hf.elim
/-- the refusals that are told -/
def EO (T : Txt K mg) (Q : VK) : XK := fun cls d H' => ∃ f, IsFl T cls d H' f ∧ ∀ z H'', Same H' H'' → Dp K H'' z f.dat → Q z H''
def TTO (T : Txt K mg) : (XK → Hp → VK → Prop) → Hp → VK → Prop := fun tl H Q => ∀ H1, Same H H1 → ∀ Q2 : VK, (∀ v H2, (∀ l, H2 l = none → Q (.ref l) (upd H2 l (.lst [v]))) → Q2 v H2) → tl (EO T Q) H1 Q2
theorem isFl_em {T : Txt K mg} {cls : Value} {d : Option Addr} {H : Hp} {f : Fl} (h : IsFl T cls d H f) : ∃ (D : Addr) (bs : List Bool), cls = .ref D ∧
    exmEach K (.ref D) [.ref T.C_BadCoder, .ref T.C_BadRow, .ref T.C_BadPaper, .ref T.C_BadByte, .ref T.C_TooGreat, .ref T.C_OutOfPlace, .ref T.C_NoSeam, .ref T.C_Nothing] bs ∧ bs.any id = true := by
  cases f with
  | coder p n => exact ⟨_, _, h.1, T.em_BadCoder, rfl⟩
  | row p n => exact ⟨_, _, h.1, T.em_BadRow, rfl⟩
  | great n => exact ⟨_, _, h.1, T.em_TooGreat, rfl⟩
  | place => exact ⟨_, _, h.1, T.em_OutOfPlace, rfl⟩
  | seam => exact ⟨_, _, h.1, T.em_NoSeam, rfl⟩
  | _ => exact h.elim
theorem isFl_same {T : Txt K mg} {cls : Value} {d : Option Addr} {H H' : Hp} {f : Fl} (s : Same H H') (h : IsFl T cls d H f) : IsFl T cls d H' f := by
  cases f with
  | coder p n =>
    obtain ⟨e, dd, vp, vn, e2, hd, h1, h2⟩ := h
    exact ⟨e, dd, vp, vn, e2, s _ _ hd, dp_same s _ _ h1, dp_same s _ _ h2⟩
  | row p n =>
    obtain ⟨e, dd, vp, vn, e2, hd, h1, h2⟩ := h
    exact ⟨e, dd, vp, vn, e2, s _ _ hd, dp_same s _ _ h1, dp_same s _ _ h2⟩
  | great n =>
    obtain ⟨e, dd, vn, e2, hd, h2⟩ := h
    exact ⟨e, dd, vn, e2, s _ _ hd, dp_same s _ _ h2⟩
  | place => exact h
  | seam => exact h
  | _ => exact h.elim
end
theorem sc_law_outcome' : FnScope ["deed", "caught", "found", "e"] ["deed"] (defScope s_law_outcome) := sc_law_outcome
theorem outcome_gives {X : Cx} (T : Txt X.K X.mg) (hr : Room 3 X.A) {g : Addr} {cdg : Value} {q : Str} :
    GivesTo X ["deed", "caught", "found", "e"] "_law_outcome" (defScope s_law_outcome) g cdg (defBody s_law_outcome) "deed" q (TTO T) := by
  intro f c' s H Q tl act hc h
  have hr' : Room 2 (cxOf C8.CX0 X.prog X.w X.K X.mg X.base ["deed", "caught", "found", "e"] "_law_outcome" (defScope s_law_outcome) g cdg X.A X.stack s H C8.E0).nox.A := hr.deeper _
  refine ⟨_, pss_cons (ps_asg (pe_tup (pa_cons pe_non (pa_cons pe_non pa_nil))) (pg_tup (by rfl) (pgs_cons (pg_name (i := 1) sc_law_outcome.nd rfl (Or.inl rfl)) (pgs_cons (pg_name (i := 2) sc_law_outcome.nd rfl (Or.inl rfl)) pgs_nil))))
    (pss_cons (ps_try_keep (i := 3) (j := 1) (cs := [.ref T.C_BadCoder, .ref T.C_BadRow, .ref T.C_BadPaper, .ref T.C_BadByte, .ref T.C_TooGreat, .ref T.C_OutOfPlace, .ref T.C_NoSeam, .ref T.C_Nothing])
      (tb := fun W D σ H => ∃ Ech : XK, (∀ cls d σ' H', Ech cls d H' → W cls d σ' H') ∧ σ[0]? = some (some (.ref f)) ∧ H c' = some (CodeO c' q) ∧ tl Ech H (fun v H' => D.nx (σ.set 2 (some v)) H'))
      rfl rfl rfl sc_law_outcome.nd rfl rfl rfl rfl (by decide) (by decide) (by decide)
      ⟨⟨by rfl, by decide, .inl T.g_BadCoder⟩, ⟨by rfl, by decide, .inl T.g_BadRow⟩, ⟨by rfl, by decide, .inl T.g_BadPaper⟩, ⟨by rfl, by decide, .inl T.g_BadByte⟩, ⟨by rfl, by decide, .inl T.g_TooGreat⟩, ⟨by rfl, by decide, .inl T.g_OutOfPlace⟩, ⟨by rfl, by decide, .inl T.g_NoSeam⟩, ⟨by rfl, by decide, .inl T.g_Nothing⟩, True.intro⟩
      (by show 8 ≤ sizeLine; decide) L2.takes0 (fun W pn xe tk _ => ?hb))
    (pss_one (ps_ret (pe_ifExp (pt_cmpR op_isN (pv 1) pe_non (nomark _)) (pe_lst (pa_cons (pv 2) pa_nil)) (pe_call (ok_law_fault T) (hr'.mono (by decide)) (by rfl) T.g__law_fault T.F__law_fault.kp T.b__law_fault .nil pass0 (pa_cons (pv 1) pa_nil)))))), ?go⟩
  case hb =>
    refine ⟨fun pins s' σ H' D I h' => ?_⟩
    obtain ⟨Ech, hW, h1, h2, h3⟩ := h'
    exact (pss_one (ps_set (i := 2) sc_law_outcome.nd rfl (Or.inl rfl) (act W pn xe Ech _ _ tk hW))).run pins s' σ H' D I ⟨h1, h2, h3⟩
  case go =>
    refine ⟨by decide, fun p hp => ?_⟩
    refine ⟨p, _, rfl, upd_tup, rfl, _, _, rfl, _, _, rfl, rfl, ?_⟩
    have s1 : Same H (upd H p (.tup [V.non, V.non])) := same_new hp
    generalize upd H p (.tup [V.non, V.non]) = H1 at s1
    refine ⟨EO T Q, fun cls d σ' H' hE => ?_, rfl, s1 _ _ hc, ?_⟩
    · obtain ⟨fl, hf, kq⟩ := hE
      obtain ⟨D0, bs, rfl, hem, hany⟩ := isFl_em hf
      refine ⟨bs, hem, fun _ hlen a ha => ?_, fun e => by rw [hany] at e; cases e⟩
      match σ', hlen with
      | [x0, x1, x2, x3], _ =>
        have s2 : Same H' (upd H' a (exT a (.ref D0) d)) := same_new ha
        refine ⟨.ref a, rfl, rfl, _, rfl, iteF ?_⟩
        exact ⟨.ref a, rfl, a, D0, d, fl, rfl, upd_same, isFl_same s2 hf, fun z H'' s3 hz => kq z H'' (s2.trans s3) hz⟩
    · refine h H1 s1 _ fun v H2 hv => ?_
      refine ⟨.non, rfl, rfl, _, rfl, iteT ?_⟩
      exact ⟨v, rfl, by show 1 ≤ sizeLine; decide, hv⟩
/-- _law_outcome(lambda: body) -/
theorem pe_outcome {X : Cx} (T : Txt X.K X.mg) {c P : Addr} {k : Nat} {body : Expr} {params : Arguments} {scope : Scope} {t : XK → TE} {p lpos pos : Pos} (TB : TabB X.base X.mg c P) (hcode : X.env.code = .ref c) (hg : Gl X "_law_outcome") (hr : Room (k + 3) X.A) (L : LamS X.env.scope scope)
    (hdef : defaultsOf params X.env = ([], [])) (hbind : ∀ (q : Str) (cl : List (Str × Addr)) (pm cv ctv : Value), bindArgs (PySem.W.kla_fn "<lambda>" q params body scope cl pm cv ctv) ⟨[], []⟩ = pure [])
    (hbody : ∀ (A : Around) (outer : List Env) (s : Shared) (H : Hp) (E : XK) (f c' : Addr), Room (k + 1) (A.deeper (lamEnv X scope s.heap.objs.size f c')) → PE (lamCx X A outer s H E scope f c') body (t E)) :
    PE X (.Call (.Name "_law_outcome" p) [.Lambda params body scope lpos] [] pos) (tLam [(P, X.env.qual ++ "<lambda>")] (TTO T) t) := by
  obtain ⟨oc, od, dV, kV, doc, pm, an, cdv, ct, osl, lk, hcd, hb⟩ := T.lk_oc
  exact pe_lamcall (k := k + 1) (Ng := ["deed", "caught", "found", "e"]) (a := "deed") hg T.g__law_outcome T.kp_oc lk hcd hb sc_law_outcome rfl (.inl rfl) (outcome_gives T (hr.mono (by omega))) TB hcode (List.mem_singleton.mpr rfl)
    (fun p hp _ => by rw [List.mem_singleton.mp hp]) hr L hdef hbind hbody
end My

/-! what stands through draws and lambdas; refusals that are told -/
namespace My
open PySem PySem.Spec PyProof.Rows L2
open LamX
theorem tabS_of {H H' : Hp} {P : Addr} {q : Str} (t : TabS H P q) (k : ∀ b o, H b = some o → (∀ xs, o ≠ .lst xs) → (∀ kv, o ≠ .dK kv) → H' b = some o) : TabS H' P q := by
  obtain ⟨ps, h1, h2, h3⟩ := t
  refine ⟨ps, k _ _ h1 nofun nofun, h2, fun pos cv hc => ?_⟩
  obtain ⟨c, e1, e2⟩ := h3 pos cv hc
  exact ⟨c, e1, k _ _ e2 (fun xs z => by unfold CodeO at z; cases z) (fun xs z => by unfold CodeO at z; cases z)⟩
theorem tabs_of {T : List (Addr × Str)} {H H' : Hp} (t : Tabs T H) (k : ∀ b o, H b = some o → (∀ xs, o ≠ .lst xs) → (∀ kv, o ≠ .dK kv) → H' b = some o) : Tabs T H' := fun p hp => tabS_of (t p hp) k
theorem tabs_same {T : List (Addr × Str)} {H H' : Hp} (t : Tabs T H) (s : Same H H') : Tabs T H' := t.ext s
theorem tabs_kp {T : List (Addr × Str)} {H H' : Hp} {m c l l' n : Addr} (t : Tabs T H) (k : Kp m l H l' H') (d : Dr H m c l n) : Tabs T H' := tabs_of t fun b o h n1 n2 => by
  obtain ⟨cs, ls, z, h1, h2, h3, r⟩ := d.ex
  exact k.st b o h (fun e => by rw [e, h1] at h; cases h; exact n2 _ rfl) (fun e => by rw [e, h3] at h; cases h; exact n1 _ rfl)
theorem tabs_put {T : List (Addr × Str)} {H : Hp} {p : Addr} {xs ys : List V} (t : Tabs T H) (h : H p = some (.lst xs)) : Tabs T (upd H p (.lst ys)) := tabs_of t fun b o hb n1 n2 => by
  rw [upd_ne (fun e => by rw [e, h] at hb; cases hb; exact n1 _ rfl)]
  exact hb
theorem tabs_nil {H : Hp} {P : Addr} {q : Str} (h : H P = some (.tbl #[])) : Tabs [(P, q)] H := fun p hp => by
  rw [List.mem_singleton.mp hp]
  exact TabS.nil h
theorem ext_same {H H' : Hp} (s : Same H H') : ExtN H H' := ExtN.of s
theorem keep_ext {H H' : Hp} (e : ExtN H H') : Keep H H' := fun b o h t => e b o h fun ps z => by
  rw [z] at t
  exact t
theorem ext_tup {K : PySem.W.Frag} {H H' : Hp} {a : Addr} {xs : List V} (e : ExtN H H') (h : SqT K H a xs) : SqT K H' a xs := (keep_ext e).tup h
theorem ext_seq {K : PySem.W.Frag} {H H' : Hp} {a : Addr} {xs : List V} (e : ExtN H H') (h : SqL K H a xs) : SqL K H' a xs := by
  rcases h with (h | ⟨o, h⟩) | h
  · exact .inl (.inl (e _ _ h nofun))
  · exact .inl (.inr ⟨o, e _ _ h nofun⟩)
  · exact .inr h
mutual
theorem dp_ext {K : PySem.W.Frag} {H H' : Hp} (s : ExtN H H') : ∀ (d : PyData) (v : V), Dp K H v d → Dp K H' v d
  | .none, _, h => by cases h; exact .non
  | .bool _, _, h => by cases h; exact .bl _
  | .int _, _, h => by cases h; exact .int _
  | .str _, _, h => by cases h; exact .str _
  | .list ds, _, h => by
    cases h with
    | lst a b => exact .lst (ext_seq s a) (dpAll_ext s ds _ b)
  | .tuple ds, _, h => by
    cases h with
    | tup a b => exact .tup (ext_tup s a) (dpAll_ext s ds _ b)
  | .dict _, _, h => by cases h
theorem dpAll_ext {K : PySem.W.Frag} {H H' : Hp} (s : ExtN H H') : ∀ (ds : List PyData) (vs : List V), DpAll K H vs ds → DpAll K H' vs ds
  | [], _, h => by cases h; exact .nil
  | d :: ds, _, h => by
    cases h with
    | cons a b => exact .cons (dp_ext s d _ a) (dpAll_ext s ds _ b)
end
theorem dr_ext {H H' : Hp} {m c l n : Nat} (d : Dr H m c l n) (s : ExtN H H') : Dr H' m c l n := by
  obtain ⟨cs, ls, k, h1, h2, h3, r⟩ := d.ex
  exact ⟨cs, ls, k, s _ _ h1 nofun, s _ _ h2 nofun, s _ _ h3 nofun, r⟩
theorem own_ext {H H' : Hp} {m c l p : Addr} {xs : List V} (o : Own H m c l p xs) (s : ExtN H H') : Own H' m c l p xs := ⟨s _ _ o.st nofun, o.nm, o.nc, o.nl⟩
/-! all but the drawer's own objects -/
def hide (m l : Addr) (H : Hp) : Hp := fun b => if b = m ∨ b = l then none else H b
theorem hide_same {m l : Addr} {H H' : Hp} (s : Same H H') : Same (hide m l H) (hide m l H') := fun b o h => by
  unfold hide at h ⊢
  by_cases e : b = m ∨ b = l
  · rw [if_pos e] at h
    cases h
  · rw [if_neg e] at h ⊢
    exact s _ _ h
theorem hide_at {m c l n p : Addr} {H : Hp} {o : HO} (D : Dr H m c l n) (h : H p = none) : hide m l (upd H p o) p = some o := by
  obtain ⟨cs, ls, k, h1, h2, h3, r⟩ := D.ex
  unfold hide
  rw [if_neg (fun e => by
    rcases e with e | e
    · rw [e, h1] at h; cases h
    · rw [e, h3] at h; cases h)]
  exact upd_same
theorem hide_kp {m l l' : Addr} {H H' : Hp} (k : Kp m l H l' H') : Same (hide m l H) H' := fun b o h => by
  unfold hide at h
  by_cases e : b = m ∨ b = l
  · rw [if_pos e] at h
    cases h
  · rw [if_neg e] at h
    exact k.st b o h (fun z => e (.inl z)) (fun z => e (.inr z))
theorem hide_sub {m l : Addr} {H : Hp} : Same (hide m l H) H := fun b o h => by
  unfold hide at h
  by_cases e : b = m ∨ b = l
  · rw [if_pos e] at h
    cases h
  · rw [if_neg e] at h
    exact h
/-! ### a coder's data tell the coder -/
theorem ints_inj : ∀ {a b : List Int}, a.map PyData.int = b.map PyData.int → a = b
  | [], [], _ => rfl
  | x :: a, y :: b, h => by
    injection h with h1 h2
    injection h1 with h1
    rw [h1, ints_inj h2]
  | [], _ :: _, h => by cases h
  | _ :: _, [], h => by cases h
theorem pairI_inj {a b : Int × Int} (h : pairI a = pairI b) : a = b := by
  unfold pairI at h
  injection h with h
  injection h with h1 h
  injection h with h2 _
  injection h1 with h1
  injection h2 with h2
  exact Prod.ext h1 h2
theorem pairs_inj : ∀ {a b : List (Int × Int)}, a.map pairI = b.map pairI → a = b
  | [], [], _ => rfl
  | x :: a, y :: b, h => by
    injection h with h1 h2
    rw [pairI_inj h1, pairs_inj h2]
  | [], _ :: _, h => by cases h
  | _ :: _, [], h => by cases h
theorem dat_inj {C D : Cod} (h : C.dat = D.dat) : C = D := by
  obtain ⟨l, g, s, m, f⟩ := C
  obtain ⟨l', g', s', m', f'⟩ := D
  unfold Cod.dat at h
  injection h with h
  injection h with h1 h
  injection h with h2 h
  injection h with h3 h
  injection h with h4 h
  injection h with h5 _
  injection h1 with h1
  injection h2 with h2
  injection h3 with h3
  injection h4 with h4
  injection h5 with h5
  have h3 := ints_inj h3
  have h4 := pairs_inj h4
  subst h1 h2 h3 h4 h5
  rfl
theorem row_inj : ∀ {a b : List Nat}, (a.map fun k : Nat => PyData.int (k : Int)) = (b.map fun k : Nat => PyData.int (k : Int)) → a = b
  | [], [], _ => rfl
  | x :: a, y :: b, h => by
    injection h with h1 h2
    injection h1 with h1
    rw [row_inj h2, Int.ofNat.inj h1]
  | [], _ :: _, h => by cases h
  | _ :: _, [], h => by cases h
theorem rowBad_pre {C : Cod} : ∀ {pre : List PyData} {r : List PyData} {i : Nat}, (∀ d ∈ pre, codeD C d = true) → i + pre.length ≤ 2000 → rowBad C i (pre ++ r) = rowBad C (i + pre.length) r
  | [], _, _, _, _ => rfl
  | d :: pre, r, i, h, hl => by
    rw [List.length_cons] at hl
    show (if (decide (i = 2000) || !codeD C d) = true then some i else rowBad C (i + 1) (pre ++ r)) = _
    rw [h d List.mem_cons_self, decide_eq_false (by omega)]
    show rowBad C (i + 1) (pre ++ r) = _
    rw [rowBad_pre (fun e he => h e (List.mem_cons_of_mem _ he)) (by omega), List.length_cons]
    congr 1
    omega
theorem codeD_in {C : Cod} {k : Nat} (h : k < C.moves.length) : codeD C (.int (k : Int)) = true := btw_in (by omega) (by omega)
theorem row_codes {C : Cod} {row : List Nat} (h : ∀ k ∈ row, k < C.moves.length) : ∀ d ∈ row.map (fun k : Nat => PyData.int (k : Int)), codeD C d = true := fun d hd => by
  obtain ⟨k, hk, rfl⟩ := List.mem_map.mp hd
  exact codeD_in (h k hk)
theorem rowRes_row' {C : Cod} {row : List Nat} (R : C.Row row) : rowRes C (some (row.map fun k : Nat => PyData.int (k : Int))) = none := by
  refine rowRes_ok ?_
  have := rowBad_pre (C := C) (pre := row.map fun k : Nat => PyData.int (k : Int)) (r := []) (i := 0) (row_codes R.lt) (by rw [List.length_map]; have := R.len; omega)
  rw [List.append_nil] at this
  exact this
/-- the first that is no code -/
theorem rowRes_at {C : Cod} {row : List Nat} {d : PyData} {r : List PyData} (h : ∀ k ∈ row, k < C.moves.length) (hl : row.length ≤ 2000) (hd : codeD C d = false) : rowRes C (some ((row.map fun k : Nat => PyData.int (k : Int)) ++ d :: r)) = some (1, (row.length : Int) + 1) := by
  refine rowRes_bad ?_
  rw [rowBad_pre (row_codes h) (by rw [List.length_map]; omega), List.length_map, Nat.zero_add]
  show (if (decide (row.length = 2000) || !codeD C d) = true then some row.length else _) = _
  rw [hd, Bool.not_false, Bool.or_true]
  rfl
theorem fltV_cod {C : Cod} (O : C.Ok) {y z : V} {R : Prop} (h : FltV (firstF C.dat) y z) : R := by
  rw [O.first] at h
  cases h
theorem fltV_tell {s : Str} {n : PyData} {y z : V} {d : PyData} (e : d = .tuple [.str s, n]) (h : FltV d y z) {K : PySem.W.Frag} {H : Hp} : Dp K H y (.str s) ∧ Dp K H z n := by
  cases h with
  | non t =>
    injection e with e
    injection e with e1 e
    injection e with e2 _
    injection e1 with e1
    subst e1 e2
    exact ⟨.str _, .non⟩
  | int t k =>
    injection e with e
    injection e with e1 e
    injection e with e2 _
    injection e1 with e1
    subst e1 e2
    exact ⟨.str _, .int _⟩
theorem units65 {k : Nat} {A : Around} (r : Room k A) : A.units + 65 < cLine := by have := r.un; omega
theorem eqv_self {d : PyData} (h : SeqAt.shaped d = true) : PyData.eqv d d = true := SeqAt.eqv_refl d (SeqAt.canLay_of_shaped h)
/-- x != y of the same data -/
theorem neD_same {K : PySem.W.Frag} {H : Hp} {x y : V} {d : PyData} {A B : Hp → Prop} (hx : Dp K H x d) (hy : Dp K H y d) (hs : SeqAt.shaped d = true) (q : B H) : rNeD K x y H fun v H' => ∃ c, v = .bl c ∧ if c = true then A H' else B H' := by
  refine ⟨d, d, hx, hy, hs, hs, _, rfl, ?_⟩
  rw [eqv_self hs]
  exact iteF q
theorem pick_v {xs : List V} {r : Int} (h0 : 0 ≤ r) (h1 : r < (xs.length : Int)) : ∃ z, z ∈ xs ∧ atI xs r = some z := by
  obtain ⟨n, rfl⟩ := Int.eq_ofNat_of_zero_le h0
  have hn : n < xs.length := by omega
  exact ⟨xs[n], List.getElem_mem hn, atI_nat (List.getElem?_eq_getElem hn)⟩
section
variable {K : PySem.W.Frag} {mg : Str → Option Value} {T : Txt K mg} {H : Hp} {Q : VK}
theorem place_E (q : ∀ z H', Same H H' → Dp K H' z (.tuple [.str "place", .none]) → Q z H') : NilE T.C_OutOfPlace H (EO T Q) := fun H' s => ⟨.place, ⟨rfl, rfl⟩, fun z H'' s' hz => q z H'' (s.trans s') hz⟩
theorem seam_E (q : ∀ z H', Same H H' → Dp K H' z (.tuple [.str "seam", .none]) → Q z H') : NilE T.C_NoSeam H (EO T Q) := fun H' s => ⟨.seam, ⟨rfl, rfl⟩, fun z H'' s' hz => q z H'' (s.trans s') hz⟩
theorem row_E {i j : Int} (q : ∀ z H', Same H H' → Dp K H' z (.tuple [.str "row", .int i, .int j]) → Q z H') : RowE T.C_BadRow H (EO T Q) i j := fun d H' s hd => ⟨.row (.int i) (.int j), ⟨rfl, d, _, _, rfl, hd, .int _, .int _⟩, fun z H'' s' hz => q z H'' (s.trans s') hz⟩
theorem coder_E {dc : PyData} {s : Str} {n : PyData} (e : firstF dc = .tuple [.str s, n]) (q : ∀ z H', Same H H' → Dp K H' z (.tuple [.str "coder", .str s, n]) → Q z H') {y z : V} (h : FltV (firstF dc) y z) : TwoE T.C_BadCoder "part" "number" H (EO T Q) y z :=
  fun d H' s hd => ⟨.coder (.str _) n, ⟨rfl, d, _, _, rfl, hd, (fltV_tell e h).1, (fltV_tell e h).2⟩, fun z H'' s' hz => q z H'' (s.trans s') hz⟩
theorem great_E {n : Int} (q : ∀ z H', Same H H' → Dp K H' z (.tuple [.str "great", .int n]) → Q z H') : OneE T.C_TooGreat "most" H (EO T Q) (.int n) := fun d H' s hd => ⟨.great (.int n), ⟨rfl, d, _, rfl, hd, .int _⟩, fun z H'' s' hz => q z H'' (s.trans s') hz⟩
end
end My

/-! all but tables and instances stands -/
namespace My
open PySem PySem.Spec PyProof.Rows L2 LamX
theorem sq_mk {K : PySem.W.Frag} {H : Hp} {p : Addr} {xs : List V} (_ : H p = none) : SqL K (upd H p (.lst xs)) p xs := SqL.of upd_same
def ExI (H H' : Hp) : Prop := ∀ b o, H b = some o → (∀ ps, o ≠ .tbl ps) → (∀ C dx fs, o ≠ .ins C dx fs) → H' b = some o
theorem exI_of {H H' : Hp} (e : ExtN H H') : ExI H H' := fun b o h n _ => e b o h n
theorem exI_same {H H' : Hp} (e : Same H H') : ExI H H' := fun b o h _ _ => e b o h
theorem ExI.trans {H H1 H2 : Hp} (a : ExI H H1) (b : ExI H1 H2) : ExI H H2 := fun p o h n1 n2 => b p o (a p o h n1 n2) n1 n2
theorem ExI.refl (H : Hp) : ExI H H := fun _ _ h _ _ => h
theorem exI_ins {H : Hp} {p C dx : Addr} {fs : List (Str × V)} {o : HO} (hp : H p = some (.ins C dx fs)) : ExI H (upd H p o) := fun b u h _ n => by
  rw [upd_ne fun e => by rw [e, hp] at h; cases h; exact n _ _ _ rfl]
  exact h
theorem exI_keep {H H' : Hp} (e : ExI H H') : Keep H H' := fun b o h t => e b o h (fun ps z => by rw [z] at t; exact t) (fun C dx fs z => by rw [z] at t; exact t)
theorem exI_tup {K : PySem.W.Frag} {H H' : Hp} {a : Addr} {xs : List V} (e : ExI H H') (h : SqT K H a xs) : SqT K H' a xs := (exI_keep e).tup h
theorem exI_seq {K : PySem.W.Frag} {H H' : Hp} {a : Addr} {xs : List V} (e : ExI H H') (h : SqL K H a xs) : SqL K H' a xs := by
  rcases h with (h | ⟨o, h⟩) | h
  · exact .inl (.inl (e _ _ h nofun nofun))
  · exact .inl (.inr ⟨o, e _ _ h nofun nofun⟩)
  · exact .inr h
mutual
theorem dp_exI {K : PySem.W.Frag} {H H' : Hp} (s : ExI H H') : ∀ (d : PyData) (v : V), Dp K H v d → Dp K H' v d
  | .none, _, h => by cases h; exact .non
  | .bool _, _, h => by cases h; exact .bl _
  | .int _, _, h => by cases h; exact .int _
  | .str _, _, h => by cases h; exact .str _
  | .list ds, _, h => by
    cases h with
    | lst a b => exact .lst (exI_seq s a) (dpAll_exI s ds _ b)
  | .tuple ds, _, h => by
    cases h with
    | tup a b => exact .tup (exI_tup s a) (dpAll_exI s ds _ b)
  | .dict _, _, h => by cases h
theorem dpAll_exI {K : PySem.W.Frag} {H H' : Hp} (s : ExI H H') : ∀ (ds : List PyData) (vs : List V), DpAll K H vs ds → DpAll K H' vs ds
  | [], _, h => by cases h; exact .nil
  | d :: ds, _, h => by
    cases h with
    | cons a b => exact .cons (dp_exI s d _ a) (dpAll_exI s ds _ b)
end
theorem dr_exI {H H' : Hp} {m c l n : Nat} (d : Dr H m c l n) (s : ExI H H') : Dr H' m c l n := by
  obtain ⟨cs, ls, k, h1, h2, h3, r⟩ := d.ex
  exact ⟨cs, ls, k, s _ _ h1 nofun nofun, s _ _ h2 nofun nofun, s _ _ h3 nofun nofun, r⟩
theorem keep_hide {H : Hp} {m c l n : Nat} (D : Dr H m c l n) : Keep H (hide m l H) := fun b o h t => by
  obtain ⟨cs, ls, k, h1, h2, h3, r⟩ := D.ex
  unfold hide
  rw [if_neg fun e => by
    rcases e with e | e
    · rw [e, h1] at h; cases h; exact t
    · rw [e, h3] at h; cases h; exact t]
  exact h
theorem hide_own {H : Hp} {m c l p : Addr} {xs : List V} (o : Own H m c l p xs) : hide m l H p = some (.lst xs) := by
  unfold hide
  rw [if_neg fun e => by
    rcases e with e | e
    · exact o.nm e
    · exact o.nl e]
  exact o.st
theorem hide_ne {H : Hp} {m l p : Addr} {u : HO} (h : H p = some u) (n1 : p ≠ m) (n2 : p ≠ l) : hide m l H p = some u := by
  unfold hide
  rw [if_neg fun e => by
    rcases e with e | e
    · exact n1 e
    · exact n2 e]
  exact h
theorem exI_hide {m l : Addr} {H : Hp} : ExI (hide m l H) H := exI_same hide_sub
theorem exI_draw {m l l' : Addr} {H0 H H' : Hp} (e : ExI (hide m l H0) H) (k : Kp m l H l' H') : ExI (hide m l H0) H' := fun b o h n1 n2 => by
  have h2 := e b o h n1 n2
  unfold hide at h
  by_cases z : b = m ∨ b = l
  · rw [if_pos z] at h
    cases h
  · exact k.st b o h2 (fun e => z (.inl e)) (fun e => z (.inr e))
end My

namespace My
open PySem PySem.Spec PyProof.Rows L2
/-! ### the least of some numbers, and where it stands first: the mathematics -/
def ab (z : Int) : Int := if z < 0 then -z else z
def mn : List Int → Int
  | [] => 0
  | [a] => a
  | a :: b :: r => if a ≤ mn (b :: r) then a else mn (b :: r)
theorem mn_mem : ∀ {ds : List Int}, ds ≠ [] → mn ds ∈ ds
  | [], h => absurd rfl h
  | [a], _ => List.mem_cons_self
  | a :: b :: r, _ => by
    show (if a ≤ mn (b :: r) then a else mn (b :: r)) ∈ _
    split
    · exact List.mem_cons_self
    · exact List.mem_cons_of_mem _ (mn_mem (List.cons_ne_nil _ _))
theorem mn_le : ∀ {ds : List Int}, ∀ y ∈ ds, mn ds ≤ y
  | [], y, h => by cases h
  | [a], y, h => by
    rw [List.mem_singleton.mp h]
    exact Int.le_refl _
  | a :: b :: r, y, h => by
    show (if a ≤ mn (b :: r) then a else mn (b :: r)) ≤ y
    rcases List.mem_cons.mp h with e | e
    · subst e
      split <;> omega
    · have := mn_le y e
      split <;> omega
theorem mn_eq {ds : List Int} {m : Int} (h : m ∈ ds) (hl : ∀ y ∈ ds, m ≤ y) : m = mn ds := by
  have h1 := mn_le m h
  have h2 := hl _ (mn_mem (List.ne_nil_of_mem h))
  omega
/-- where m stands first -/
def ixf (m : Int) : List Int → Nat
  | [] => 0
  | a :: r => if a = m then 0 else ixf m r + 1
theorem ixf_get {m : Int} : ∀ {ds : List Int}, m ∈ ds → ds[ixf m ds]? = some m
  | [], h => by cases h
  | a :: r, h => by
    unfold ixf
    split
    · rename_i e
      rw [e]
      rfl
    · rename_i e
      rcases List.mem_cons.mp h with e' | e'
      · exact absurd e'.symm e
      · rw [List.getElem?_cons_succ]
        exact ixf_get e'
theorem ixf_not {m : Int} : ∀ {ds : List Int} {i : Nat} {z : Int}, i < ixf m ds → ds[i]? = some z → z ≠ m
  | [], _, _, h, _ => absurd h (Nat.not_lt_zero _)
  | a :: r, i, z, h, e => by
    unfold ixf at h
    split at h
    · exact absurd h (Nat.not_lt_zero _)
    · rename_i hne
      match i, e with
      | 0, e =>
        have : a = z := Option.some.inj e
        rw [← this]
        exact hne
      | i + 1, e => exact ixf_not (ds := r) (i := i) (by omega) (by simpa using e)
/-- where the least stands first -/
def fm (ds : List Int) : Nat := ixf (mn ds) ds
theorem fm_lt {ds : List Int} (h : ds ≠ []) : fm ds < ds.length := (List.getElem?_eq_some_iff.mp (ixf_get (mn_mem h))).1
/-- xs.index(min(xs)) -/
theorem r_first {K : PySem.W.Frag} {H : Hp} {a : Addr} {ds : List Int} {Q : VK} (h : SqL K H a (ds.map V.int)) (hne : ds ≠ []) (q : Q (.int (fm ds : Nat)) H) {m : Int} (hm : m ∈ ds) (hl : ∀ y ∈ ds, m ≤ y) :
    rIndex K (.ref a) [.int m] H Q := by
  have e := mn_eq hm hl
  subst e
  refine ⟨a, ds.map V.int, _, fm ds, .int (mn ds), rfl, rfl, h, rfl, ?_, ?_, ?_, fun i z' hi hz => ?_, q⟩
  · rw [List.all_eq_true]
    intro v hv
    obtain ⟨z, _, rfl⟩ := List.mem_map.mp hv
    rfl
  · rw [List.getElem?_map]
    show Option.map V.int (ds[ixf (mn ds) ds]?) = _
    rw [ixf_get (mn_mem hne)]
    rfl
  · show decide (mn ds = mn ds) = true
    exact decide_eq_true rfl
  · rw [List.getElem?_map] at hz
    cases e : ds[i]? with
    | none => rw [e] at hz; cases hz
    | some z =>
      rw [e] at hz
      cases hz
      have := ixf_not (m := mn ds) hi e
      show decide (z = mn ds) = false
      exact decide_eq_false this
/-! ### signals -/
structure Sig (sig : List Int) : Prop where
  len : sig.length ≤ 64
  bd : ∀ z ∈ sig, -40000 ≤ z ∧ z ≤ 40000
def sigI (sig : List Int) : PyData := .tuple (sig.map .int)
theorem sig_at {K : PySem.W.Frag} {H : Hp} {v : V} {sig : List Int} (h : Dp K H v (sigI sig)) : ∃ a, v = .ref a ∧ SqT K H a (sig.map V.int) := by
  obtain ⟨a, xs, rfl, ha, hd⟩ := dp_tup h
  rw [dpAll_ints hd] at ha
  exact ⟨a, rfl, ha⟩
theorem ints_get {ns : List Int} {i : Nat} {x : V} (h : (ns.map V.int)[i]? = some x) : ∃ z, ns[i]? = some z ∧ x = .int z := by
  rw [List.getElem?_map] at h
  cases e : ns[i]? with
  | none => rw [e] at h; cases h
  | some k => rw [e] at h; exact ⟨k, rfl, (Option.some.inj h).symm⟩
theorem ints_takeS {zs : List Int} {i : Nat} {z : Int} (h : zs[i]? = some z) : (zs.take (i + 1)).map V.int = (zs.take i).map V.int ++ [V.int z] := by
  rw [take_snoc h, List.map_append]
  rfl
theorem noL_ints (ns : List Int) : noL (.tuple (ns.map .int)) = true := by
  show noLs (ns.map .int) = true
  refine noLs_all fun d hd => ?_
  obtain ⟨z, _, rfl⟩ := List.mem_map.mp hd
  rfl
/-- how far the samples of the codes are from a number -/
def Cod.dist (C : Cod) (s : Int × Int) (n : Int) : List Int := (List.range C.moves.length).map fun k => ab (n - (C.led s k).1)
theorem dist_len {C : Cod} {s : Int × Int} {n : Int} : (C.dist s n).length = C.moves.length := by
  unfold Cod.dist
  rw [List.length_map, List.length_range]
theorem dist_ne {C : Cod} (O : C.Ok) {s : Int × Int} {n : Int} : C.dist s n ≠ [] := fun e => by
  have := dist_len (C := C) (s := s) (n := n)
  rw [e] at this
  have := O.m1
  simp at *
  omega
theorem dist_get {C : Cod} {s : Int × Int} {n : Int} {i : Nat} (h : i < C.moves.length) : (C.dist s n)[i]? = some (ab (n - (C.led s i).1)) := by
  unfold Cod.dist
  rw [List.getElem?_map, List.getElem?_range h]
  rfl
def Cod.near (C : Cod) (s : Int × Int) (n : Int) : Nat := fm (C.dist s n)
theorem near_lt {C : Cod} (O : C.Ok) (s : Int × Int) (n : Int) : C.near s n < C.moves.length := by
  have := fm_lt (dist_ne O (s := s) (n := n))
  rw [dist_len] at this
  exact this
def Cod.greedy (C : Cod) (s : Int × Int) : List Int → List Nat
  | [] => []
  | n :: r => C.near s n :: C.greedy (C.led s (C.near s n)) r
theorem greedy_snoc {C : Cod} : ∀ (q : List Int) (s : Int × Int) (n : Int), C.greedy s (q ++ [n]) = C.greedy s q ++ [C.near (C.run s (C.greedy s q)) n]
  | [], _, _ => rfl
  | j :: r, s, n => by
    show C.near s j :: C.greedy (C.led s (C.near s j)) (r ++ [n]) = _
    rw [greedy_snoc r _ n]
    rfl
theorem greedy_len {C : Cod} : ∀ (q : List Int) (s : Int × Int), (C.greedy s q).length = q.length
  | [], _ => rfl
  | j :: r, s => congrArg (· + 1) (greedy_len r _)
theorem greedy_lt {C : Cod} (O : C.Ok) : ∀ (q : List Int) (s : Int × Int), ∀ k ∈ C.greedy s q, k < C.moves.length
  | [], _, _, h => by cases h
  | j :: r, s, k, h => by
    rcases List.mem_cons.mp h with e | e
    · rw [e]
      exact near_lt O s j
    · exact greedy_lt O r _ k e
/-- the distances of a signal and of what is heard -/
def dsts (sig lv : List Int) : List Int := (sig.zip lv).map fun p => ab (p.1 - p.2)
def err (sig lv : List Int) : Int := (dsts sig lv).sum
theorem dsts_len {sig lv : List Int} : (dsts sig lv).length = min sig.length lv.length := by
  unfold dsts
  rw [List.length_map, List.length_zip]
theorem dsts_get {sig lv : List Int} {i : Nat} {a b : Int} (h1 : sig[i]? = some a) (h2 : lv[i]? = some b) : (dsts sig lv)[i]? = some (ab (a - b)) := by
  unfold dsts
  rw [List.getElem?_map, (List.getElem?_zip_eq_some (z := (a, b))).mpr ⟨h1, h2⟩]
  rfl
theorem sum_bd {B : Int} : ∀ {l : List Int}, (∀ z ∈ l, 0 ≤ z ∧ z ≤ B) → 0 ≤ l.sum ∧ l.sum ≤ B * l.length
  | [], _ => by simp
  | a :: r, h => by
    have ih := sum_bd fun z hz => h z (List.mem_cons_of_mem _ hz)
    have ha := h a List.mem_cons_self
    rw [List.sum_cons, List.length_cons]
    have e : B * ((r.length + 1 : Nat) : Int) = B * (r.length : Int) + B := by
      rw [Int.natCast_succ, Int.mul_add, Int.mul_one]
    rw [e]
    omega
theorem err_bd {C : Cod} (O : C.Ok) {sig : List Int} (S : Sig sig) (s : Int × Int) (row : List Nat) : (err sig (C.lev s row)).natAbs < 2 ^ 64 := by
  have h : ∀ z ∈ dsts sig (C.lev s row), 0 ≤ z ∧ z ≤ 100000 := fun z hz => by
    obtain ⟨p, hp, rfl⟩ := List.mem_map.mp hz
    have h1 := S.bd _ (List.of_mem_zip hp).1
    have h2 := lev_in O row s _ (List.of_mem_zip hp).2
    have := O.l1
    have := O.h2
    show 0 ≤ ab _ ∧ ab _ ≤ _
    unfold ab
    split <;> omega
  have := sum_bd h
  have hl := dsts_len (sig := sig) (lv := C.lev s row)
  have := S.len
  show (dsts sig (C.lev s row)).sum.natAbs < _
  omega
end My

namespace My
open PySem PySem.Spec PyProof.Rows L2
section
variable {P : Program} {w : World} {K : PySem.W.Frag} {mg : Str → Option Value} {base : Heap}
def sp_samples (K : PySem.W.Frag) : Sp := fun vs H Q _ => ∃ (c r x : V) (C : Cod) (row : List Nat) (s : Int × Int), vs = [c, r, x] ∧ C.Ok ∧ Dp K H c C.dat ∧ Dp K H r (rowI row) ∧ C.Row row ∧ Dp K H x (pairI s) ∧ C.St s ∧
  ∀ p H', Same H H' → H p = none → H' p = some (.lst ((C.lev s row).map V.int)) → Q (.ref p) H'
theorem ok_samples_along (T : Txt K mg) : FnOk P w K mg base CX0 5 T.f_samples_along T.d_samples_along ["coder", "row", "state"] (sp_samples K) := by
  refine T.F_samples_along.ok sc_samples_along (fun vs H Q E h => ?_) (fun cdv A outer s H vs Q E hr h => ?_)
  · obtain ⟨c, r, x, C, row, s, rfl, _⟩ := h
    rfl
  · obtain ⟨c, r, x, C, row, st, rfl, O, hc, hrow, R, hx, hst, q⟩ := h
    refine ⟨_,
(pss_cons (ps_set (i := 3) sc_samples_along.nd rfl (Or.inl rfl) (pe_lst pa_nil))
      (pss_cons (ps_set (i := 4) sc_samples_along.nd rfl (Or.inl rfl) (pv 2))
      (pss_cons (ps_for PassesOwn.never rfl (pi_tup (pv 1)) (pg_name (i := 5) sc_samples_along.nd rfl (Or.inl rfl)) (pss_cons (ps_set (i := 4) sc_samples_along.nd rfl (Or.inl rfl) (pe_call (ok_state_behind T) (hr.mono (by decide)) (by rfl) T.g_state_behind T.F_state_behind.kp T.b_state_behind .nil pass0 (pa_cons (pv 0) (pa_cons (pv 4) (pa_cons (pv 5) pa_nil)))))
      (pss_one (ps_expr (pe_bm PySem.F.plainAttrs_list PySem.F.slot_list_append PySem.F.type_list_append mt_append (pv 3) (pa_cons (pe_ix ix_tup (pv 4) pe_int (fun _ _ => rfl)) pa_nil))))))
      (pss_one (ps_ret (pv 3))))))
, ?_⟩
    refine ⟨by decide, fun l hl => ?_⟩
    have s1 := same_new (o := .lst []) hl
    refine ⟨_, rfl, ?_⟩
    obtain ⟨a, rfl, ha⟩ := row_at hrow
    refine ⟨.ref a, rfl, a, rfl, ⟨_, same_tup s1 ha⟩, ?_⟩
    refine for_tup (K := K) (a := a) (xs := rowV row) (fun i σ H' => ∃ v y, σ = [some c, some (.ref a), some x, some (.ref l), some v, y] ∧ Same H H' ∧ H' l = some (.lst ((C.lev st (row.take i)).map V.int)) ∧ Dp K H' v (pairI (C.run st (row.take i))))
      ⟨x, none, rfl, s1, upd_same, dp_same s1 _ _ hx⟩ ?_ ?_ ?_
    · rintro i σ H' _ ⟨_, _, _, s2, _⟩
      exact same_tup s2 ha
    · rintro i v σ H' hi ⟨z, y, rfl, s2, hL, hD⟩
      obtain ⟨k, hk, rfl⟩ := rowV_get hi
      have hlen : i < 2000 := by
        have h1 := (List.getElem?_eq_some_iff.mp hk).1
        have := R.len
        omega
      refine ⟨c, rfl, z, rfl, .int k, rfl, c, z, C, _, k, rfl, O, dp_same s2 _ _ hc, hD, run_St O _ hst, R.lt k (List.mem_of_getElem? hk), fun p hp => ?_⟩
      have s3 := same_new (o := .tup [.int (C.led (C.run st (row.take i)) k).1, .int (C.led (C.run st (row.take i)) k).2]) hp
      refine ⟨.ref l, rfl, .inl ⟨rfl, _, SqL.of (s3 _ _ hL)⟩, .ref p, rfl, p, _, 0, _, rfl, rfl, upd_tup, atI_nat (j := 0) rfl, l, _, _, rfl, rfl, s3 _ _ hL, ?_, ?_⟩
      · rw [List.length_map, lev_len, List.length_take]
        exact Nat.lt_of_le_of_lt (Nat.min_le_left _ _) (Nat.lt_trans hlen (by decide))
      · refine ⟨_, _, rfl, ?_, ?_, ?_⟩
        · exact same_put (s2.trans s3) hl
        · rw [upd_same, take_snoc hk, lev_snoc, List.map_append]
          rfl
        · rw [take_snoc hk, run_snoc]
          exact dp_mkpair (sqt_set (s3 _ _ hL) upd_tup)
    · rintro σ H' ⟨z, y, rfl, s2, hL, hD⟩
      have e : row.take (rowV row).length = row := by
        unfold rowV
        rw [List.length_map, List.take_length]
      rw [e] at hL
      exact ⟨.ref l, rfl, q l H' s2 hl hL⟩
end
end My

namespace My
open PySem PySem.Spec PyProof.Rows L2
/-! ### slices and sums of tuples of anything -/
theorem sl_takeV {K : PySem.W.Frag} {H : Hp} {a : Addr} {xs : List V} {n : Nat} {Q : VK} (h : SqT K H a xs) (hn : n ≤ xs.length) (k : ∀ b H', Same H H' → SqT K H' b (xs.take n) → Q (.ref b) H') :
    rSlA K (.ref a) none (some (n : Int)) H Q := by
  refine ⟨a, xs, rfl, h, fun ⟨_, e⟩ => ?_, fun _ p hp => ?_⟩
  · rw [HT.sIx_nat, Nat.min_eq_left hn] at e
    refine k _ H (Same.refl H) ?_
    rw [e, List.take_length]
    exact h
  · refine k _ _ (same_new hp) ?_
    rw [cut_take hn]
    exact upd_tup
theorem sl_dropV {K : PySem.W.Frag} {H : Hp} {a : Addr} {xs : List V} {n : Nat} {Q : VK} (h : SqT K H a xs) (hn : n ≤ xs.length) (k : ∀ b H', Same H H' → SqT K H' b (xs.drop n) → Q (.ref b) H') :
    rSlA K (.ref a) (some (n : Int)) none H Q := by
  refine ⟨a, xs, rfl, h, fun ⟨e, _⟩ => ?_, fun _ p hp => ?_⟩
  · rw [HT.sIx_nat, Nat.min_eq_left hn] at e
    refine k _ H (Same.refl H) ?_
    rw [e]
    exact h
  · refine k _ _ (same_new hp) ?_
    rw [cut_drop hn]
    exact upd_tup
theorem cat_any {K : PySem.W.Frag} {H : Hp} {a b : Addr} {xs ys : List V} {Q : VK} (ha : SqT K H a xs) (hb : SqT K H b ys) (hl : xs.length + ys.length ≤ sizeLine)
    (k : ∀ c H', Same H H' → SqT K H' c (xs ++ ys) → Q (.ref c) H') : rCatA K (.ref a) (.ref b) H Q := by
  refine ⟨a, b, _, _, rfl, rfl, ha, hb, hl, fun e => ?_, fun _ e => ?_, fun _ _ p hp => ?_⟩
  · refine k _ H (Same.refl H) ?_
    rw [e]
    exact hb
  · refine k _ H (Same.refl H) ?_
    rw [e, List.append_nil]
    exact ha
  · exact k _ _ (same_new hp) upd_tup
theorem dpAll_take {K : PySem.W.Frag} {H : Hp} : ∀ {xs : List V} {ds : List PyData} (n : Nat), DpAll K H xs ds → DpAll K H (xs.take n) (ds.take n)
  | _, _, 0, _ => .nil
  | _, _, n + 1, .nil => .nil
  | _, _, n + 1, .cons a b => .cons a (dpAll_take n b)
theorem dpAll_drop {K : PySem.W.Frag} {H : Hp} : ∀ {xs : List V} {ds : List PyData} (n : Nat), DpAll K H xs ds → DpAll K H (xs.drop n) (ds.drop n)
  | _, _, 0, h => h
  | _, _, n + 1, .nil => .nil
  | _, _, n + 1, .cons a b => dpAll_drop n b
end My

namespace My
open PySem PySem.Spec PyProof.Rows L2
/-! ### blocks of bytes: the mathematics -/
theorem fdp (a : Int) {b : Int} (h : 0 ≤ b) : Int.fdiv a b = a / b := Int.fdiv_eq_ediv_of_nonneg a h
theorem fmp (a : Int) {b : Int} (h : 0 ≤ b) : Int.fmod a b = a % b := Int.fmod_eq_emod_of_nonneg a h
def pkAt (row : List Nat) (i : Nat) : Int := (row.getD (2 * i) 0 : Int) + 16 * (row.getD (2 * i + 1) 0 : Int)
def pk (row : List Nat) : List Int := (List.range ((row.length + 1) / 2)).map (pkAt row)
theorem pk_len (row : List Nat) : (pk row).length = (row.length + 1) / 2 := by
  unfold pk
  rw [List.length_map, List.length_range]
theorem pk_get {row : List Nat} {i : Nat} (h : i < (row.length + 1) / 2) : (pk row)[i]? = some (pkAt row i) := by
  unfold pk
  rw [List.getElem?_map, List.getElem?_range h]
  rfl
def wd (s : Int × Int) : Int := s.1 % 65536
def inner (s : Int × Int) (row : List Nat) : List Int := [wd s / 256, wd s % 256, s.2, (row.length : Int)] ++ pk row
def blk (s : Int × Int) (row : List Nat) : List Int := [165, 90] ++ inner s row ++ [(inner s row).sum % 256]
theorem inner_len (s : Int × Int) (row : List Nat) : (inner s row).length = 4 + (row.length + 1) / 2 := by
  unfold inner
  rw [List.length_append, pk_len]
  rfl
theorem blk_len (s : Int × Int) (row : List Nat) : (blk s row).length = 7 + (row.length + 1) / 2 := by
  unfold blk
  rw [List.length_append, List.length_append, inner_len]
  simp
  omega
theorem blk_head (s : Int × Int) (row : List Nat) : blk s row = 165 :: 90 :: (wd s / 256) :: (wd s % 256) :: s.2 :: (row.length : Int) :: (pk row ++ [(inner s row).sum % 256]) := rfl
/-- the bytes of bl stand at the place b -/
def Sub (ds : List Int) (b : Nat) (bl : List Int) : Prop := ∀ i z, bl[i]? = some z → ds[b + i]? = some z
theorem sub_app {pre bl post : List Int} : Sub (pre ++ (bl ++ post)) pre.length bl := fun i z h => by
  have hi := (List.getElem?_eq_some_iff.mp h).1
  rw [List.getElem?_append_right (by omega), show pre.length + i - pre.length = i by omega, List.getElem?_append_left hi]
  exact h
theorem Sub.slice {ds bl : List Int} {b : Nat} (h : Sub ds b bl) {i n : Nat} (hn : i + n ≤ bl.length) : (ds.drop (b + i)).take n = (bl.drop i).take n := by
  refine List.ext_getElem? fun j => ?_
  by_cases hj : j < n
  · rw [List.getElem?_take_of_lt hj, List.getElem?_take_of_lt hj, List.getElem?_drop, List.getElem?_drop]
    have hb : bl[i + j]? = some bl[i + j] := List.getElem?_eq_getElem (by omega)
    rw [hb, ← h _ _ hb]
    congr 1
    omega
  · rw [List.getElem?_eq_none (by rw [List.length_take]; omega), List.getElem?_eq_none (by rw [List.length_take]; omega)]
theorem Sub.pk {ds : List Int} {b : Nat} {s : Int × Int} {row : List Nat} (h : Sub ds b (blk s row)) {i : Nat} (hi : i < (row.length + 1) / 2) : ds[b + 6 + i]? = some (pkAt row i) := by
  have := h (6 + i) (pkAt row i) (by
    rw [blk_head]
    rw [show 6 + i = i + 6 by omega]
    simp only [List.getElem?_cons_succ]
    rw [List.getElem?_append_left (by rw [pk_len]; exact hi), pk_get hi])
  rw [← this]
  congr 1
  omega
theorem Sub.sum {ds : List Int} {b : Nat} {s : Int × Int} {row : List Nat} (h : Sub ds b (blk s row)) : ds[b + 6 + (row.length + 1) / 2]? = some ((inner s row).sum % 256) := by
  have := h (6 + (row.length + 1) / 2) ((inner s row).sum % 256) (by
    rw [blk_head]
    rw [show 6 + (row.length + 1) / 2 = (row.length + 1) / 2 + 6 by omega]
    simp only [List.getElem?_cons_succ]
    rw [List.getElem?_append_right (by rw [pk_len]; exact Nat.le_refl _), pk_len, Nat.sub_self]
    rfl)
  rw [← this]
  congr 1
  omega
theorem Sub.inn {ds : List Int} {b : Nat} {s : Int × Int} {row : List Nat} (h : Sub ds b (blk s row)) : (ds.drop (b + 2)).take (4 + (row.length + 1) / 2) = inner s row := by
  rw [h.slice (i := 2) (n := 4 + (row.length + 1) / 2) (by rw [blk_len]; omega)]
  show (inner s row ++ [(inner s row).sum % 256]).take _ = _
  rw [List.take_append_of_le_length (by rw [inner_len]; exact Nat.le_refl _), ← inner_len s row, List.take_length]
theorem getD_lt {row : List Nat} {m : Nat} (h : ∀ k ∈ row, k < m) (i : Nat) : row.getD i 0 < m ∨ row.getD i 0 = 0 := by
  rw [List.getD_eq_getElem?_getD]
  cases e : row[i]? with
  | none => exact .inr rfl
  | some k => exact .inl (h k (List.mem_of_getElem? e))
theorem getD_out {row : List Nat} {i : Nat} (h : row.length ≤ i) : row.getD i 0 = 0 := by
  rw [List.getD_eq_getElem?_getD, List.getElem?_eq_none h]
  rfl
theorem getD_in {row : List Nat} {m i : Nat} (h : ∀ k ∈ row, k < m) (hi : i < row.length) : row.getD i 0 < m := by
  rw [List.getD_eq_getElem?_getD, List.getElem?_eq_getElem hi]
  exact h _ (List.getElem_mem hi)
/-- a row in blocks -/
structure Parts (rs : List (List Nat)) : Prop where
  ne : ∀ r ∈ rs, r ≠ []
  le : ∀ r ∈ rs, r.length ≤ 255
def fileB (C : Cod) (s : Int × Int) : List (List Nat) → List Int
  | [] => []
  | r :: rs => blk s r ++ fileB C (C.run s r) rs
theorem fileB_snoc {C : Cod} : ∀ (rs : List (List Nat)) (s : Int × Int) (r : List Nat), fileB C s (rs ++ [r]) = fileB C s rs ++ blk (C.run s rs.flatten) r
  | [], s, r => by
    show blk s r ++ [] = [] ++ blk s r
    rw [List.append_nil, List.nil_append]
  | q :: rs, s, r => by
    show blk s q ++ fileB C (C.run s q) (rs ++ [r]) = blk s q ++ fileB C (C.run s q) rs ++ _
    rw [fileB_snoc rs _ r, List.append_assoc, List.flatten_cons, run_app]
theorem fileB_app {C : Cod} : ∀ (rs qs : List (List Nat)) (s : Int × Int), fileB C s (rs ++ qs) = fileB C s rs ++ fileB C (C.run s rs.flatten) qs
  | [], qs, s => rfl
  | q :: rs, qs, s => by
    show blk s q ++ fileB C (C.run s q) (rs ++ qs) = blk s q ++ fileB C (C.run s q) rs ++ _
    rw [fileB_app rs qs _, List.append_assoc, List.flatten_cons, run_app]
theorem Parts.snoc {rs : List (List Nat)} {r : List Nat} (h : Parts rs) (h1 : r ≠ []) (h2 : r.length ≤ 255) : Parts (rs ++ [r]) :=
  ⟨fun q hq => by
    rcases List.mem_append.mp hq with e | e
    · exact h.ne q e
    · rw [List.mem_singleton.mp e]; exact h1,
   fun q hq => by
    rcases List.mem_append.mp hq with e | e
    · exact h.le q e
    · rw [List.mem_singleton.mp e]; exact h2⟩
theorem fileB_len {C : Cod} : ∀ {rs : List (List Nat)} (s : Int × Int), Parts rs → (fileB C s rs).length ≤ 8 * rs.flatten.length
  | [], _, _ => Nat.zero_le _
  | r :: rs, s, h => by
    show (blk s r ++ fileB C (C.run s r) rs).length ≤ _
    have ih := fileB_len (C := C) (rs := rs) (C.run s r) ⟨fun q hq => h.ne q (List.mem_cons_of_mem _ hq), fun q hq => h.le q (List.mem_cons_of_mem _ hq)⟩
    have h1 : 0 < r.length := List.length_pos_iff.mpr (h.ne r List.mem_cons_self)
    rw [List.length_append, blk_len, List.flatten_cons, List.length_append]
    omega
/-- ds is a file of the row from s -/
def FileOf (C : Cod) (s : Int × Int) (row : List Nat) (ds : List Int) : Prop := ∃ rs, Parts rs ∧ rs.flatten = row ∧ ds = fileB C s rs
theorem FileOf.len {C : Cod} {s : Int × Int} {row : List Nat} {ds : List Int} (h : FileOf C s row ds) : ds.length ≤ 8 * row.length := by
  obtain ⟨rs, p, rfl, rfl⟩ := h
  exact fileB_len s p
theorem FileOf.snoc {C : Cod} {s : Int × Int} {row r : List Nat} {ds : List Int} (h : FileOf C s row ds) (h1 : r ≠ []) (h2 : r.length ≤ 255) : FileOf C s (row ++ r) (ds ++ blk (C.run s row) r) := by
  obtain ⟨rs, p, rfl, rfl⟩ := h
  exact ⟨rs ++ [r], p.snoc h1 h2, by simp, (fileB_snoc rs s r).symm⟩
theorem FileOf.nil {C : Cod} {s : Int × Int} : FileOf C s [] [] := ⟨[], ⟨nofun, nofun⟩, rfl, rfl⟩
theorem wd_bd (s : Int × Int) : 0 ≤ wd s ∧ wd s < 65536 := by
  unfold wd
  omega
theorem pkAt_bd {row : List Nat} {m : Nat} (hm : m ≤ 16) (h : ∀ k ∈ row, k < m) (i : Nat) : 0 ≤ pkAt row i ∧ pkAt row i ≤ 255 ∧ pkAt row i % 16 = (row.getD (2 * i) 0 : Nat) ∧ pkAt row i / 16 = (row.getD (2 * i + 1) 0 : Nat) := by
  have h1 := getD_lt h (2 * i)
  have h2 := getD_lt h (2 * i + 1)
  unfold pkAt
  omega
/-- t[lo:hi] of a tuple -/
theorem sl_partV {K : PySem.W.Frag} {H : Hp} {a : Addr} {xs : List V} {lo hi : Nat} {Q : VK} (h : SqT K H a xs) (h1 : lo ≤ xs.length) (k : ∀ b H', Same H H' → SqT K H' b ((xs.drop lo).take (hi - lo)) → Q (.ref b) H') :
    rSlA K (.ref a) (some (lo : Int)) (some (hi : Int)) H Q := by
  have e : (xs.drop (min lo xs.length)).take (min hi xs.length - min lo xs.length) = (xs.drop lo).take (hi - lo) := by
    rw [Nat.min_eq_left h1]
    by_cases hh : hi ≤ xs.length
    · rw [Nat.min_eq_left hh]
    · rw [Nat.min_eq_right (by omega), List.take_of_length_le (by rw [List.length_drop]; exact Nat.le_refl _), List.take_of_length_le (by rw [List.length_drop]; omega)]
  refine ⟨a, xs, rfl, h, fun ⟨e0, e1⟩ => ?_, fun _ p hp => ?_⟩
  · rw [HT.sIx_nat] at e0 e1
    refine k _ H (Same.refl H) ?_
    rw [← e, e0, e1, List.drop_zero, Nat.sub_zero, List.take_length]
    exact h
  · refine k _ _ (same_new hp) ?_
    have e2 : cutV xs (some (lo : Int)) (some (hi : Int)) = (xs.drop lo).take (hi - lo) := by
      unfold cutV
      rw [HT.sIx_nat, HT.sIx_nat]
      exact e
    rw [e2]
    exact upd_tup
/-- range(0, n, c) -/
theorem rg_up {n c : Nat} (h1 : 1 ≤ c) (h2 : c ≤ 1000) (hn : n ≤ 1000000) : RgC 0 (n : Int) (c : Int) ((n + c - 1) / c) := by
  have e : Builtin.Range.rangeSize 0 (n : Int) (c : Int) = (((n + c - 1) / c : Nat) : Int) := by
    unfold Builtin.Range.rangeSize
    rw [if_pos (by omega)]
    split
    · rename_i h
      have h0 : 0 < n := by omega
      rw [show n + c - 1 = (n - 1) + c by omega, Nat.add_div_right _ (by omega)]
      have : ((n : Int) - 0 - 1) = ((n - 1 : Nat) : Int) := by omega
      rw [this]
      rw [Int.natCast_succ, Int.natCast_ediv]
    · have h0 : n = 0 := by omega
      subst h0
      rw [Nat.div_eq_of_lt (by omega)]
      rfl
  have hle : (n + c - 1) / c ≤ n + c - 1 := Nat.div_le_self _ _
  obtain ⟨q, hq⟩ : ∃ q, q = (n + c - 1) / c := ⟨_, rfl⟩
  rw [← hq] at e hle ⊢
  refine ⟨by omega, by omega, ?_, e⟩
  unfold Builtin.Range.small
  rw [e]
  simp only [Builtin.Range.rangeFitsLong, Bool.and_eq_true, Bool.or_eq_true, decide_eq_true_eq, beq_iff_eq]
  rw [if_pos (show (c : Int) > 0 by omega), Bool.and_eq_true, decide_eq_true_eq, decide_eq_true_eq]
  omega
end My

/-! clips -/
namespace My
open PySem PySem.Spec PyProof.Rows L2
/-! equality of data made of ints and tuples -/
mutual
def pur : PyData → Bool
  | .int _ => true
  | .tuple ds => purs ds
  | _ => false
def purs : List PyData → Bool
  | [] => true
  | d :: r => pur d && purs r
end
mutual
theorem eqv_pur : ∀ d e : PyData, pur d = true → pur e = true → (PyData.eqv d e = true ↔ d = e)
  | .int a, .int b, _, _ => by
    show ((a == b) = true ↔ _)
    rw [beq_iff_eq]
    exact ⟨fun h => (by rw [h]), fun h => (by injection h)⟩
  | .tuple a, .tuple b, h1, h2 => by
    show (PyData.eqvAll a b = true ↔ _)
    rw [eqvs_pur a b h1 h2]
    exact ⟨fun h => (by rw [h]), fun h => (by injection h)⟩
  | .int a, .tuple b, _, _ => ⟨fun h => (by cases h), fun h => (by cases h)⟩
  | .tuple a, .int b, _, _ => ⟨fun h => (by cases h), fun h => (by cases h)⟩
  | .none, _, h, _ => by cases h
  | .bool _, _, h, _ => by cases h
  | .str _, _, h, _ => by cases h
  | .list _, _, h, _ => by cases h
  | .dict _, _, h, _ => by cases h
  | .int _, .none, _, h => by cases h
  | .int _, .bool _, _, h => by cases h
  | .int _, .str _, _, h => by cases h
  | .int _, .list _, _, h => by cases h
  | .int _, .dict _, _, h => by cases h
  | .tuple _, .none, _, h => by cases h
  | .tuple _, .bool _, _, h => by cases h
  | .tuple _, .str _, _, h => by cases h
  | .tuple _, .list _, _, h => by cases h
  | .tuple _, .dict _, _, h => by cases h
theorem eqvs_pur : ∀ a b : List PyData, purs a = true → purs b = true → (PyData.eqvAll a b = true ↔ a = b)
  | [], [], _, _ => ⟨fun _ => rfl, fun _ => rfl⟩
  | [], _ :: _, _, _ => ⟨fun h => (by cases h), fun h => (by cases h)⟩
  | _ :: _, [], _, _ => ⟨fun h => (by cases h), fun h => (by cases h)⟩
  | d :: a, e :: b, h1, h2 => by
    obtain ⟨p1, p2⟩ := Bool.and_eq_true_iff.mp (show (pur d && purs a) = true from h1)
    obtain ⟨q1, q2⟩ := Bool.and_eq_true_iff.mp (show (pur e && purs b) = true from h2)
    show ((PyData.eqv d e && PyData.eqvAll a b) = true ↔ _)
    rw [Bool.and_eq_true_iff, eqv_pur d e p1 q1, eqvs_pur a b p2 q2]
    exact ⟨fun ⟨x, y⟩ => (by rw [x, y]), fun h => (by injection h with x y; exact ⟨x, y⟩)⟩
end
theorem purs_map {α : Type} {f : α → PyData} (h : ∀ x, pur (f x) = true) : ∀ l : List α, purs (l.map f) = true
  | [] => rfl
  | x :: l => by
    show (pur (f x) && purs (l.map f)) = true
    rw [h x, purs_map h l]
    rfl
theorem pur_row (r : List Nat) : pur (rowI r) = true := purs_map (f := fun k : Nat => PyData.int (k : Int)) (fun _ => rfl) r
theorem pur_pair (s : Int × Int) : pur (pairI s) = true := rfl
theorem pur_cod (C : Cod) : pur C.dat = true := by
  show (true && (true && (purs (C.steps.map .int) && (purs (C.moves.map pairI) && (true && true))))) = true
  rw [purs_map (f := PyData.int) (fun _ => rfl), purs_map (f := pairI) (fun _ => rfl)]
  rfl
theorem lay_map {α : Type} {f : α → PyData} {n : Nat} (h : ∀ x, (f x).canLay0 = true ∧ (f x).depth ≤ n) : ∀ l : List α, PyData.canLayAll0 (l.map f) = true ∧ PyData.depthAll (l.map f) ≤ n
  | [] => ⟨rfl, Nat.zero_le _⟩
  | x :: l => by
    obtain ⟨h1, h2⟩ := lay_map h l
    exact ⟨by show ((f x).canLay0 && PyData.canLayAll0 (l.map f)) = true; rw [(h x).1, h1]; rfl, by show max (f x).depth (PyData.depthAll (l.map f)) ≤ n; have := (h x).2; omega⟩
theorem shaped_rowC (r : List Nat) : SeqAt.shaped (rowI r) = true := by
  obtain ⟨h1, h2⟩ := lay_map (f := fun k : Nat => PyData.int (k : Int)) (n := 0) (fun _ => ⟨rfl, Nat.le_refl _⟩) r
  show (PyData.canLayAll0 (r.map _) && decide (PyData.depthAll (r.map _) + 1 ≤ 64)) = true
  rw [h1, decide_eq_true (by omega)]
  rfl
theorem shaped_pairC (s : Int × Int) : SeqAt.shaped (pairI s) = true := rfl
theorem shaped_cod (C : Cod) : SeqAt.shaped C.dat = true := by
  obtain ⟨h1, h2⟩ := lay_map (f := PyData.int) (n := 0) (fun _ => ⟨rfl, Nat.le_refl _⟩) C.steps
  obtain ⟨h3, h4⟩ := lay_map (f := pairI) (n := 1) (fun _ => ⟨rfl, Nat.le_refl _⟩) C.moves
  show ((true && (true && (PyData.canLayAll0 (C.steps.map .int) && (PyData.canLayAll0 (C.moves.map pairI) && (true && true))))) && decide (max 0 (max 0 (max (PyData.depthAll (C.steps.map .int) + 1) (max (PyData.depthAll (C.moves.map pairI) + 1) (max 0 0)))) + 1 ≤ 64)) = true
  rw [h1, h3, decide_eq_true (by omega)]
  rfl
theorem eqv_dec {d e : PyData} (h1 : pur d = true) (h2 : pur e = true) [Decidable (d = e)] : PyData.eqv d e = decide (d = e) := by
  by_cases h : d = e
  · rw [(eqv_pur d e h1 h2).mpr h, decide_eq_true h]
  · rw [decide_eq_false h]
    cases hb : PyData.eqv d e with
    | false => rfl
    | true => exact absurd ((eqv_pur d e h1 h2).mp hb) h
noncomputable instance decCod : DecidableEq Cod := fun a b => Classical.propDecidable (a = b)
theorem eqv_codC (C D : Cod) : PyData.eqv C.dat D.dat = decide (C = D) := by
  open Classical in rw [eqv_dec (pur_cod C) (pur_cod D)]
  exact decide_eq_decide.mpr ⟨dat_inj, fun h => by rw [h]⟩
theorem eqv_rowC (r q : List Nat) : PyData.eqv (rowI r) (rowI q) = decide (r = q) := by
  open Classical in rw [eqv_dec (pur_row r) (pur_row q)]
  refine decide_eq_decide.mpr ⟨fun h => row_inj (by injection h), fun h => by rw [h]⟩
theorem eqv_pairC (s t : Int × Int) : PyData.eqv (pairI s) (pairI t) = decide (s = t) := by
  open Classical in rw [eqv_dec (pur_pair s) (pur_pair t)]
  exact decide_eq_decide.mpr ⟨pairI_inj, fun h => by rw [h]⟩
theorem same_put2 {H H' : Hp} {p : Addr} {o : HO} (s : Same H H') (h : H p = none) : Same H (upd H' p o) := fun b u e => by
  rw [upd_ne (ne_of_none e h)]
  exact s b u e
section
variable {P : Program} {w : World} {K : PySem.W.Frag} {mg : Str → Option Value} {base : Heap}
theorem okDD {x qual : Str} {params : Arguments} {body : List Stmt} {scope : Scope} {f : Addr} {fd : FuncData} {N ps : List Str} {k : Nat} {sp : Sp}
    (F : ∃ dv q, FunD K x qual params body scope dv [("state", V.ref q)] f fd) (S : FnScope N ps scope) (len : ∀ vs H Q E, sp vs H Q E → vs.length = ps.length)
    (hbody : ∀ (cdv : Value) (A : Around) (outer : List Env) (s : Shared) (H : Hp) (vs : List V) (Q : VK) (E : XK), Room k (A.deeper (envOfC qual scope s.heap.objs.size f cdv)) → sp vs H Q E →
      ∃ t, PSs (cxOf (L2.CX P w) P w K mg base N qual scope f cdv A outer s H E) body t ∧ t { nx := fun _ H' => Q .non H', rt := Q } (start N vs) H) : FnOk P w K mg base (L2.CX P w) (k + 1) f fd ps sp := by
  obtain ⟨dv, q, F⟩ := F
  exact F.ok S len hbody
/-- a clip -/
def clO (T : Txt K mg) (dx : Addr) (c r x : V) : HO := .ins T.C_Clip dx [("_coder", c), ("_codes", r), ("_state", x)]
/-- what a clip at p has -/
structure ClS (T : Txt K mg) (H : Hp) (p : Addr) (C : Cod) (row : List Nat) (s : Int × Int) : Prop where
  ex : ∃ dx c r x, H p = some (clO T dx c r x) ∧ Dp K H c C.dat ∧ Dp K H r (rowI row) ∧ Dp K H x (pairI s)
  O : C.Ok
  R : C.Row row
  St : C.St s
theorem ClS.same {T : Txt K mg} {H H' : Hp} {p : Addr} {C : Cod} {row : List Nat} {s : Int × Int} (h : ClS T H p C row s) (e : Same H H') : ClS T H' p C row s := by
  obtain ⟨dx, c, r, x, h1, h2, h3, h4⟩ := h.ex
  exact ⟨⟨dx, c, r, x, e _ _ h1, dp_same e _ _ h2, dp_same e _ _ h3, dp_same e _ _ h4⟩, h.O, h.R, h.St⟩
/-- what a clip's making asks, refusals in their order -/
def ClipE (T : Txt K mg) (p dx : Addr) (c r x : V) (H : Hp) (Q : VK) (E : XK) : Prop := ∃ (dc : PyData) (rr : Option (List PyData)) (dX : PyData), Dp K H c dc ∧ Th K H r rr ∧ Dp K H x dX ∧
  (∀ y z, FltV (firstF dc) y z → TwoE T.C_BadCoder "part" "number" H E y z) ∧ ∀ C : Cod, C.Ok → dc = C.dat → (∀ i j, rowRes C rr = some (i, j) → RowE T.C_BadRow H E i j) ∧
  ∀ row : List Nat, rr = some (row.map fun k : Nat => PyData.int (k : Int)) → C.Row row → (stateD C dX = false → NilE T.C_OutOfPlace H E) ∧ ∀ st, dX = pairI st → C.St st → ∀ H1, Same H H1 → Q .non (upd H1 p (clO T dx c r x))
def sp_Clip_init (T : Txt K mg) : Sp := fun vs H Q E => ∃ (p dx : Addr) (c r x : V), vs = [.ref p, c, r, x] ∧ H p = some (.ins T.C_Clip dx []) ∧ ClipE T p dx c r x H Q E
theorem ok_Clip_init (T : Txt K mg) : FnOk P w K mg base (L2.CX P w) 8 T.f_Clip_init T.d_Clip_init ["self", "coder", "codes", "state"] (sp_Clip_init T) := by
  refine okDD T.F_Clip_init sc_Clip_init (fun vs H Q E h => ?_) (fun cdv A outer s H vs Q E hr h => ?_)
  · obtain ⟨p, dx, c, r, x, rfl, _⟩ := h
    rfl
  · obtain ⟨p, dx, c, r, x, rfl, hp, dc, rr, dX, hc, hrr, hx, q1, q2⟩ := h
    refine ⟨_,
(pss_cons (ps_expr (pe_call (ok_need_coder T) (hr.mono (by decide)) (by rfl) T.g_need_coder T.F_need_coder.kp T.b_need_coder .nil (passes_call (takes_of rfl rfl rfl rfl) (fun _ _ _ _ h => h)) (pa_cons (pv 1) pa_nil)))
      (pss_cons (ps_expr (pe_call (ok_need_row T) (hr.mono (by decide)) (by rfl) T.g_need_row T.F_need_row.kp T.b_need_row .nil (passes_call (takes_of rfl rfl rfl rfl) (fun _ _ _ _ h => h)) (pa_cons (pv 1) (pa_cons (pv 2) pa_nil))))
      (pss_cons (ps_expr (pe_call (ok_need_state T) (hr.mono (by decide)) (by rfl) T.g_need_state T.F_need_state.kp T.b_need_state .nil (passes_call (takes_of rfl rfl rfl rfl) (fun _ _ _ _ h => h)) (pa_cons (pv 1) (pa_cons (pv 3) pa_nil))))
      (pss_cons (ps_fld (pv 0) (pv 1) rfl)
      (pss_cons (ps_fld (pv 0) (pv 2) rfl)
      (pss_one (ps_fld (pv 0) (pv 3) rfl)))))))
, ?_⟩
    refine ⟨c, rfl, c, _, rfl, hc, fun h0 H1 s1 => ?_, q1⟩
    obtain ⟨C, O, rfl⟩ := firstF_cod h0
    obtain ⟨q3, q4⟩ := q2 C O rfl
    refine ⟨_, rfl, _, rfl, c, r, C, rr, rfl, dp_same s1 _ _ hc, hrr.same s1, fun h2 H2 s2 => ?_, fun i j e => (q3 i j e).same s1⟩
    obtain ⟨row, rfl, R⟩ := rowRes_row h2
    obtain ⟨q5, q6⟩ := q4 row rfl R
    have s12 := s1.trans s2
    refine ⟨_, rfl, _, rfl, c, x, C, dX, rfl, dp_same s12 _ _ hc, dp_same s12 _ _ hx, fun h3 H3 s3 => ?_, fun h3 => (q5 h3).same s12⟩
    obtain ⟨st, rfl, hst⟩ := stateD_out h3
    have s13 := s12.trans s3
    refine ⟨_, rfl, _, rfl, p, T.C_Clip, dx, _, rfl, s13 _ _ hp, T.cl_Clip, T.na_Clip__coder, by decide, ?_⟩
    refine ⟨_, rfl, _, rfl, p, T.C_Clip, dx, _, rfl, upd_same, T.cl_Clip, T.na_Clip__codes, by show 1 < 1000; decide, ?_⟩
    refine ⟨_, rfl, _, rfl, p, T.C_Clip, dx, _, rfl, upd_same, T.cl_Clip, T.na_Clip__state, by show 2 < 1000; decide, ?_⟩
    rw [upd_upd, upd_upd]
    exact q6 st rfl hst H3 s13
def sp_Clip_get (T : Txt K mg) (f : V → V → V → V) : Sp := fun vs H Q _ => ∃ (p dx : Addr) (c r x : V), vs = [.ref p] ∧ H p = some (clO T dx c r x) ∧ Q (f c r x) H
theorem ok_Clip_coder (T : Txt K mg) : FnOk P w K mg base CX0 1 T.f_Clip_coder T.d_Clip_coder ["self"] (sp_Clip_get T fun c _ _ => c) := by
  refine T.F_Clip_coder.ok sc_Clip_coder (fun vs H Q E h => ?_) (fun cdv A outer s H vs Q E hr h => ?_)
  · obtain ⟨p, dx, c, r, x, rfl, _⟩ := h
    rfl
  · obtain ⟨p, dx, c, r, x, rfl, hp, q⟩ := h
    refine ⟨_,
(pss_one (ps_ret (pe_fld (pv 0) rfl)))
, ?_⟩
    exact ⟨_, rfl, p, T.C_Clip, dx, _, _, rfl, hp, T.cl_Clip, T.na_Clip__coder, rfl, q⟩
theorem ok_Clip_codes (T : Txt K mg) : FnOk P w K mg base CX0 1 T.f_Clip_codes T.d_Clip_codes ["self"] (sp_Clip_get T fun _ r _ => r) := by
  refine T.F_Clip_codes.ok sc_Clip_codes (fun vs H Q E h => ?_) (fun cdv A outer s H vs Q E hr h => ?_)
  · obtain ⟨p, dx, c, r, x, rfl, _⟩ := h
    rfl
  · obtain ⟨p, dx, c, r, x, rfl, hp, q⟩ := h
    refine ⟨_,
(pss_one (ps_ret (pe_fld (pv 0) rfl)))
, ?_⟩
    exact ⟨_, rfl, p, T.C_Clip, dx, _, _, rfl, hp, T.cl_Clip, T.na_Clip__codes, rfl, q⟩
theorem ok_Clip_state (T : Txt K mg) : FnOk P w K mg base CX0 1 T.f_Clip_state T.d_Clip_state ["self"] (sp_Clip_get T fun _ _ x => x) := by
  refine T.F_Clip_state.ok sc_Clip_state (fun vs H Q E h => ?_) (fun cdv A outer s H vs Q E hr h => ?_)
  · obtain ⟨p, dx, c, r, x, rfl, _⟩ := h
    rfl
  · obtain ⟨p, dx, c, r, x, rfl, hp, q⟩ := h
    refine ⟨_,
(pss_one (ps_ret (pe_fld (pv 0) rfl)))
, ?_⟩
    exact ⟨_, rfl, p, T.C_Clip, dx, _, _, rfl, hp, T.cl_Clip, T.na_Clip__state, rfl, q⟩
def sp_Clip_heard (T : Txt K mg) : Sp := fun vs H Q _ => ∃ (p : Addr) (C : Cod) (row : List Nat) (s : Int × Int), vs = [.ref p] ∧ ClS T H p C row s ∧ ∀ t H1, Same H H1 → SqT K H1 t ((C.lev s row).map V.int) → Q (.ref t) H1
theorem ok_Clip_heard (T : Txt K mg) : FnOk P w K mg base CX0 6 T.f_Clip_heard T.d_Clip_heard ["self"] (sp_Clip_heard T) := by
  refine T.F_Clip_heard.ok sc_Clip_heard (fun vs H Q E h => ?_) (fun cdv A outer s H vs Q E hr h => ?_)
  · obtain ⟨p, C, row, s, rfl, _⟩ := h
    rfl
  · obtain ⟨p, C, row, st, rfl, hS, q⟩ := h
    obtain ⟨dx, c, r, x, hp, hc, hrow, hx⟩ := hS.ex
    refine ⟨_,
(pss_one (ps_ret (pe_callTy call_tuple_of (by rfl) T.z_tuple (by decide +kernel) (pa_cons (pe_call (ok_samples_along T) (hr.mono (by decide)) (by rfl) T.g_samples_along T.F_samples_along.kp T.b_samples_along .nil pass0 (pa_cons (pe_fld (pv 0) rfl) (pa_cons (pe_fld (pv 0) rfl) (pa_cons (pe_fld (pv 0) rfl) pa_nil)))) pa_nil))))
, ?_⟩
    refine ⟨_, rfl, p, T.C_Clip, dx, _, _, rfl, hp, T.cl_Clip, T.na_Clip__coder, rfl, _, rfl, p, T.C_Clip, dx, _, _, rfl, hp, T.cl_Clip, T.na_Clip__codes, rfl, _, rfl, p, T.C_Clip, dx, _, _, rfl, hp, T.cl_Clip, T.na_Clip__state, rfl, c, r, x, C, row, st, rfl, hS.O, hc, hrow, hS.R, hx, hS.St, fun l H1 s1 hl hL => ?_⟩
    refine ⟨l, _, rfl, .inl ⟨SqL.of hL, fun t ht => ?_⟩⟩
    exact q t _ (s1.trans (same_new ht)) upd_tup
def sp_Clip_last (T : Txt K mg) : Sp := fun vs H Q _ => ∃ (p : Addr) (C : Cod) (row : List Nat) (s : Int × Int), vs = [.ref p] ∧ ClS T H p C row s ∧ ∀ z H1, Same H H1 → Dp K H1 z (pairI (C.run s row)) → Q z H1
theorem ok_Clip_last (T : Txt K mg) : FnOk P w K mg base CX0 6 T.f_Clip_last T.d_Clip_last ["self"] (sp_Clip_last T) := by
  refine T.F_Clip_last.ok sc_Clip_last (fun vs H Q E h => ?_) (fun cdv A outer s H vs Q E hr h => ?_)
  · obtain ⟨p, C, row, s, rfl, _⟩ := h
    rfl
  · obtain ⟨p, C, row, st, rfl, hS, q⟩ := h
    obtain ⟨dx, c, r, x, hp, hc, hrow, hx⟩ := hS.ex
    refine ⟨_,
(pss_one (ps_ret (pe_call (ok_state_behind_row T) (hr.mono (by decide)) (by rfl) T.g_state_behind_row T.F_state_behind_row.kp T.b_state_behind_row .nil pass0 (pa_cons (pe_fld (pv 0) rfl) (pa_cons (pe_fld (pv 0) rfl) (pa_cons (pe_fld (pv 0) rfl) pa_nil))))))
, ?_⟩
    refine ⟨_, rfl, p, T.C_Clip, dx, _, _, rfl, hp, T.cl_Clip, T.na_Clip__coder, rfl, _, rfl, p, T.C_Clip, dx, _, _, rfl, hp, T.cl_Clip, T.na_Clip__codes, rfl, _, rfl, p, T.C_Clip, dx, _, _, rfl, hp, T.cl_Clip, T.na_Clip__state, rfl, c, r, x, C, row, st, rfl, hS.O, hc, hrow, hS.R.lt, hx, hS.St, fun z H1 s1 hz => q z H1 s1 hz⟩
def sp_Clip_len (T : Txt K mg) : Sp := fun vs H Q _ => ∃ (p : Addr) (C : Cod) (row : List Nat) (s : Int × Int), vs = [.ref p] ∧ ClS T H p C row s ∧ Q (.int (row.length : Nat)) H
theorem ok_Clip_len (T : Txt K mg) : FnOk P w K mg base CX0 1 T.f_Clip_len T.d_Clip_len ["self"] (sp_Clip_len T) := by
  refine T.F_Clip_len.ok sc_Clip_len (fun vs H Q E h => ?_) (fun cdv A outer s H vs Q E hr h => ?_)
  · obtain ⟨p, C, row, s, rfl, _⟩ := h
    rfl
  · obtain ⟨p, C, row, st, rfl, hS, q⟩ := h
    obtain ⟨dx, c, r, x, hp, hc, hrow, hx⟩ := hS.ex
    obtain ⟨ra, rfl, hra⟩ := row_at hrow
    refine ⟨_,
(pss_one (ps_ret (pe_callB (call_len_seq) (by rfl) T.z_len (by decide +kernel) (pa_cons (pe_fld (pv 0) rfl) pa_nil))))
, ?_⟩
    refine ⟨_, rfl, p, T.C_Clip, dx, _, _, rfl, hp, T.cl_Clip, T.na_Clip__codes, rfl, ra, _, rfl, .inr hra, ?_⟩
    rw [show (rowV row).length = row.length from List.length_map ..]
    exact q
theorem clip_mk {T : Txt K mg} {H : Hp} {y dy : Addr} {c r x : V} {C : Cod} {row : List Nat} {s : Int × Int} {Q : VK} {E : XK} (hy : H y = none) (hdy : H dy = none) (O : C.Ok) (hc : Dp K H c C.dat) (hr : Dp K H r (rowI row)) (R : C.Row row) (hx : Dp K H x (pairI s)) (hs : C.St s)
    (q : ∀ H1, Same H H1 → ClS T H1 y C row s → Q .non H1) : sp_Clip_init T [.ref y, c, r, x] (upd (upd H dy (.own y)) y (.ins T.C_Clip dy [])) Q E := by
  have sy : Same H (upd (upd H dy (.own y)) y (.ins T.C_Clip dy [])) := same_put2 (same_new hdy) hy
  refine ⟨y, dy, c, r, x, rfl, upd_same, C.dat, some (row.map fun k : Nat => PyData.int (k : Int)), pairI s, dp_same sy _ _ hc, dp_same sy _ _ hr, dp_same sy _ _ hx, fun y z h => fltV_cod O h, fun C' O' e => ?_⟩
  obtain rfl := dat_inj e
  refine ⟨fun i j e => (by rw [rowRes_row' R] at e; cases e), fun row' e _ => ?_⟩
  obtain rfl := row_inj (Option.some.inj e)
  refine ⟨fun e => (by rw [hs.ok] at e; cases e), fun st' e _ H1 s1 => ?_⟩
  obtain rfl := pairI_inj e
  have sF := same_put2 (o := clO T dy c r x) (sy.trans s1) hy
  exact q _ sF ⟨⟨dy, c, r, x, upd_same, dp_same sF _ _ hc, dp_same sF _ _ hr, dp_same sF _ _ hx⟩, O, R, hs⟩
def sp_Clip_copy (T : Txt K mg) : Sp := fun vs H Q _ => ∃ (p : Addr) (C : Cod) (row : List Nat) (s : Int × Int), vs = [.ref p] ∧ ClS T H p C row s ∧ ∀ y H1, Same H H1 → H y = none → ClS T H1 y C row s → Q (.ref y) H1
theorem ok_Clip_copy (T : Txt K mg) : FnOk P w K mg base CX0 10 T.f_Clip_copy T.d_Clip_copy ["self"] (sp_Clip_copy T) := by
  refine T.F_Clip_copy.ok sc_Clip_copy (fun vs H Q E h => ?_) (fun cdv A outer s H vs Q E hr h => ?_)
  · obtain ⟨p, C, row, s, rfl, _⟩ := h
    rfl
  · obtain ⟨p, C, row, st, rfl, hS, q⟩ := h
    obtain ⟨dx, c, r, x, hp, hc, hrow, hx⟩ := hS.ex
    refine ⟨_,
(pss_one (ps_ret (pe_makeK T.mk_Clip (ok_Clip_init T) (hr.mono (by decide)) (by rfl) T.g_Clip T.k_Clip_init passL (pa_cons (pe_fld (pv 0) rfl) (pa_cons (pe_fld (pv 0) rfl) pa_nil)) (pk_cons (pe_fld (pv 0) rfl) pk_nil))))
, ?_⟩
    refine ⟨_, rfl, p, T.C_Clip, dx, _, _, rfl, hp, T.cl_Clip, T.na_Clip__coder, rfl, _, rfl, p, T.C_Clip, dx, _, _, rfl, hp, T.cl_Clip, T.na_Clip__codes, rfl, _, rfl, p, T.C_Clip, dx, _, _, rfl, hp, T.cl_Clip, T.na_Clip__state, rfl, rfl, rfl, fun mo dm hm' hdm nem => ?_⟩
    exact clip_mk (T := T) (row := row) hm' hdm hS.O hc hrow hS.R hx hS.St fun H12 s12 hmo => ⟨rfl, q mo H12 s12 hm' hmo⟩
def sp_Clip_eq (T : Txt K mg) : Sp := fun vs H Q _ => ∃ (p : Addr) (y : V) (C : Cod) (row : List Nat) (s : Int × Int), vs = [.ref p, y] ∧ ClS T H p C row s ∧
  ((∃ (T' : String), T' ∈ ["NoneType", "bool", "int", "str", "list", "tuple", "dict"] ∧ TyX K H y (.type T') ∧ Q (.bl false) H) ∨
   ∃ (p' : Addr) (C' : Cod) (row' : List Nat) (s' : Int × Int), y = .ref p' ∧ ClS T H p' C' row' s' ∧ ∀ b : Bool, (b = true ↔ C = C' ∧ row = row' ∧ s = s') → Q (.bl b) H)
theorem ok_Clip_eq (T : Txt K mg) : FnOk P w K mg base CX0 2 T.f_Clip_eq T.d_Clip_eq ["self", "other"] (sp_Clip_eq T) := by
  refine T.F_Clip_eq.ok sc_Clip_eq (fun vs H Q E h => ?_) (fun cdv A outer s H vs Q E hr h => ?_)
  · obtain ⟨p, y, C, row, s, rfl, _⟩ := h
    rfl
  · obtain ⟨p, y, C, row, st, rfl, hS, h⟩ := h
    obtain ⟨dx, c, r, x, hp, hc, hrow, hx⟩ := hS.ex
    refine ⟨_,
(pss_cons (ps_if (pt_not (pt_val (pe_callB (call_isi) (by rfl) T.z_isinstance (by decide +kernel) (pa_cons (pv 1) (pa_cons (pe_glob (v := .ref T.C_Clip) (by rfl) T.g_Clip rfl) pa_nil))))) (pss_one (ps_ret pe_bl)) pss_nil)
      (pss_one (ps_ret (pe_and (pe_cmpR (op_eqD hr.units) (pe_fld (pv 0) rfl) (pe_fld (pv 1) rfl) (nomark _)) (pe_and (pe_cmpR (op_eqD hr.units) (pe_fld (pv 0) rfl) (pe_fld (pv 1) rfl) (nomark _)) (pe_one (pe_cmpR (op_eqD hr.units) (pe_fld (pv 0) rfl) (pe_fld (pv 1) rfl) (nomark _))))))))
, ?_⟩
    rcases h with ⟨T', hT', ty, q⟩ | ⟨p', C', row', st', rfl, hS', q⟩
    · refine ⟨_, rfl, _, .ref T.C_Clip, _, _, _, rfl, .own _, ty, T.is_Clip.no T' hT', _, rfl, ?_⟩
      refine iteT ?_
      exact q
    obtain ⟨dx', c', r', x', hp', hc', hrow', hx'⟩ := hS'.ex
    refine ⟨_, rfl, _, .ref T.C_Clip, _, _, _, rfl, .own _, T.is_Clip.ty T.cl_Clip hp', kit_selfC, _, rfl, ?_⟩
    refine iteF ?_
    refine ⟨_, rfl, p, T.C_Clip, dx, _, _, rfl, hp, T.cl_Clip, T.na_Clip__coder, rfl, _, rfl, p', T.C_Clip, dx', _, _, rfl, hp', T.cl_Clip, T.na_Clip__coder, rfl, C.dat, C'.dat, hc, hc', shaped_cod C, shaped_cod C', _, rfl, ?_⟩
    rw [eqv_codC]
    by_cases e1 : C = C'
    · rw [decide_eq_true e1]
      refine iteT ?_
      refine ⟨_, rfl, p, T.C_Clip, dx, _, _, rfl, hp, T.cl_Clip, T.na_Clip__codes, rfl, _, rfl, p', T.C_Clip, dx', _, _, rfl, hp', T.cl_Clip, T.na_Clip__codes, rfl, rowI row, rowI row', hrow, hrow', shaped_rowC row, shaped_rowC row', _, rfl, ?_⟩
      rw [eqv_rowC]
      by_cases e2 : row = row'
      · rw [decide_eq_true e2]
        refine iteT ?_
        refine ⟨_, rfl, p, T.C_Clip, dx, _, _, rfl, hp, T.cl_Clip, T.na_Clip__state, rfl, _, rfl, p', T.C_Clip, dx', _, _, rfl, hp', T.cl_Clip, T.na_Clip__state, rfl, pairI st, pairI st', hx, hx', shaped_pairC st, shaped_pairC st', ?_⟩
        rw [eqv_pairC]
        refine q _ ?_
        rw [decide_eq_true_eq]
        exact ⟨fun h => ⟨e1, e2, h⟩, fun h => h.2.2⟩
      · rw [decide_eq_false e2]
        refine iteF ?_
        exact q false ⟨nofun, fun h => absurd h.2.1 e2⟩
    · rw [decide_eq_false e1]
      refine iteF ?_
      exact q false ⟨nofun, fun h => absurd h.1 e1⟩
theorem sl_takeA {H : Hp} {a : Addr} {xs : List V} {n : Nat} {Q : VK} (h : SqT K H a xs) (k : ∀ b H', Same H H' → SqT K H' b (xs.take n) → Q (.ref b) H') : rSlA K (.ref a) none (some (n : Int)) H Q := by
  by_cases hn : n ≤ xs.length
  · exact sl_takeV h hn k
  · have e0 : xs.take n = xs := List.take_of_length_le (by omega)
    refine ⟨a, xs, rfl, h, fun _ => ?_, fun ne p hp => ?_⟩
    · refine k _ H (Same.refl H) ?_
      rw [e0]
      exact h
    · refine absurd ⟨rfl, ?_⟩ ne
      rw [HT.sIx_nat]
      exact Nat.min_eq_right (by omega)
theorem ok_need_few_codes (T : Txt K mg) : FnOk P w K mg base (L2.CX P w) 4 T.f__need_few_codes T.d__need_few_codes ["many"] (fun vs H Q E => ∃ n : Int, vs = [.int n] ∧ (n ≤ 2000 → Q .non H) ∧ (2000 < n → OneE T.C_TooGreat "most" H E (.int 2000))) := by
  refine T.F__need_few_codes.okX sc_need_few_codes (fun vs H Q E h => ?_) (fun cdv A outer s H vs Q E hr h => ?_)
  · obtain ⟨n, rfl, _⟩ := h
    rfl
  · obtain ⟨n, rfl, q, q2⟩ := h
    refine ⟨_,
(pss_one (ps_if (pt_cmpR op_gt (pv 0) (pe_glob (v := .int 2000) (by rfl) T.g_MOST_CODES ⟨_, rfl⟩) (nomark _)) (pss_one (ps_raise rfl (takes_of rfl rfl rfl rfl) (My.pmk_tg T.o_TooGreat T.i_TooGreat T.t_TooGreat (oki_TooGreat T) (hr.mono (by decide)) T.bi_TooGreat .nil pass0 (by rfl) T.g_TooGreat (pa_cons (pe_glob (v := .int 2000) (by rfl) T.g_MOST_CODES ⟨_, rfl⟩) pa_nil)))) pss_nil))
, ?_⟩
    refine ⟨_, rfl, _, _, rfl, rfl, _, rfl, ?_⟩
    by_cases hn : n ≤ 2000
    · rw [decide_eq_false (by omega)]
      exact iteF (q hn)
    · rw [decide_eq_true (by omega)]
      refine iteT ?_
      have q2 := q2 (by omega)
      exact ⟨by show 1 ≤ 1000; decide, fun b hb => ⟨b, .int 2000, rfl, upd_same, fun d hd n => ⟨rfl, d, _, upd_same, (upd_ne n).trans upd_same, (upd_ne n).symm.trans hd, oneE_mk q2 hb hd n⟩⟩⟩
def sp_Clip_iadd (T : Txt K mg) : Sp := fun vs H Q _ => ∃ (p dx : Addr) (c r x y : V) (C : Cod) (row more : List Nat), vs = [.ref p, y] ∧ H p = some (clO T dx c r x) ∧ Dp K H c C.dat ∧ Dp K H r (rowI row) ∧ Dp K H y (rowI more) ∧ C.Row more ∧ row.length + more.length ≤ 2000 ∧
  ∀ r' H1, Same H H1 → Dp K H1 r' (rowI (row ++ more)) → Q (.ref p) (upd H1 p (clO T dx c r' x))
theorem ok_Clip_iadd (T : Txt K mg) : FnOk P w K mg base (L2.CX P w) 6 T.f_Clip_iadd T.d_Clip_iadd ["self", "other"] (sp_Clip_iadd T) := by
  refine T.F_Clip_iadd.okX sc_Clip_iadd (fun vs H Q E h => ?_) (fun cdv A outer s H vs Q E hr h => ?_)
  · obtain ⟨p, dx, c, r, x, y, C, row, more, rfl, _⟩ := h
    rfl
  · obtain ⟨p, dx, c, r, x, y, C, row, more, rfl, hp, hc, hrow, hy, R, hl, q⟩ := h
    obtain ⟨ra, rfl, hra⟩ := row_at hrow
    obtain ⟨ya, rfl, hya⟩ := row_at hy
    have l1 : (rowV row).length = row.length := List.length_map ..
    have l2 : (rowV more).length = more.length := List.length_map ..
    refine ⟨_,
(pss_cons (ps_expr (pe_call (ok_need_row T) (hr.mono (by decide)) (by rfl) T.g_need_row T.F_need_row.kp T.b_need_row .nil (passes_call (takes_of rfl rfl rfl rfl) (fun _ _ _ _ h => h)) (pa_cons (pe_fld (pv 0) rfl) (pa_cons (pv 1) pa_nil))))
      (pss_cons (ps_expr (pe_call (ok_need_few_codes T) (hr.mono (by decide)) (by rfl) T.g__need_few_codes T.F__need_few_codes.kp T.b__need_few_codes .nil (passes_call (takes_of rfl rfl rfl rfl) (fun _ _ _ _ h => h)) (pa_cons (pe_op op_add (pe_callB (call_len_seq) (by rfl) T.z_len (by decide +kernel) (pa_cons (pe_fld (pv 0) rfl) pa_nil)) (pe_callB (call_len_seq) (by rfl) T.z_len (by decide +kernel) (pa_cons (pv 1) pa_nil))) pa_nil)))
      (pss_cons (ps_fld (pv 0) (pe_op op_catA (pe_fld (pv 0) rfl) (pv 1)) rfl)
      (pss_one (ps_ret (pv 0))))))
, ?_⟩
    refine ⟨_, rfl, p, T.C_Clip, dx, _, _, rfl, hp, T.cl_Clip, T.na_Clip__coder, rfl, _, rfl, c, .ref ya, C, some (more.map fun k : Nat => PyData.int (k : Int)), rfl, hc, hy, fun _ H1 s1 => ?_, fun i j e => (by rw [rowRes_row' R] at e; cases e)⟩
    refine ⟨_, rfl, p, T.C_Clip, dx, _, _, rfl, s1 _ _ hp, T.cl_Clip, T.na_Clip__codes, rfl, ra, _, rfl, .inr (same_tup s1 hra), _, rfl, ya, _, rfl, .inr (same_tup s1 hya), _, _, rfl, rfl, _, rfl, 
      fun _ => ?_, fun h => by rw [l1, l2] at h; omega⟩
    refine ⟨_, rfl, p, T.C_Clip, dx, _, _, rfl, s1 _ _ hp, T.cl_Clip, T.na_Clip__codes, rfl, _, rfl, ?_⟩
    refine cat_any (same_tup s1 hra) (same_tup s1 hya) (by rw [l1, l2]; exact sz_line (by omega)) fun z H2 s2 hz => ?_
    have s12 := s1.trans s2
    refine ⟨_, rfl, p, T.C_Clip, dx, _, rfl, s12 _ _ hp, T.cl_Clip, T.na_Clip__codes, by show 3 < 1000; decide, ?_⟩
    refine ⟨_, rfl, ?_⟩
    rw [show rowV row ++ rowV more = rowV (row ++ more) from List.map_append.symm] at hz
    exact q _ H2 s12 (dp_row hz)
def sp_Clip_begins (T : Txt K mg) : Sp := fun vs H Q E => ∃ (p : Addr) (y : V) (C : Cod) (row : List Nat) (s : Int × Int), vs = [.ref p, y] ∧ ClS T H p C row s ∧
  ((∃ (T' : String), T' ∈ ["NoneType", "bool", "int", "str", "list", "tuple", "dict"] ∧ TyX K H y (.type T') ∧ NilE T.C_OutOfPlace H E) ∨
   ∃ (p' : Addr) (C' : Cod) (row' : List Nat) (s' : Int × Int), y = .ref p' ∧ ClS T H p' C' row' s' ∧ ∀ (b : Bool) H1, Same H H1 → (b = true ↔ C = C' ∧ s = s' ∧ row.take row'.length = row') → Q (.bl b) H1)
theorem ok_Clip_begins (T : Txt K mg) : FnOk P w K mg base (L2.CX P w) 4 T.f_Clip_begins T.d_Clip_begins ["self", "other"] (sp_Clip_begins T) := by
  refine T.F_Clip_begins.okX sc_Clip_begins (fun vs H Q E h => ?_) (fun cdv A outer s H vs Q E hr h => ?_)
  · obtain ⟨p, y, C, row, s, rfl, _⟩ := h
    rfl
  · obtain ⟨p, y, C, row, st, rfl, hS, h⟩ := h
    obtain ⟨dx, c, r, x, hp, hc, hrow, hx⟩ := hS.ex
    refine ⟨_,
(pss_cons (ps_if (pt_not (pt_val (pe_callB (call_isi) (by rfl) T.z_isinstance (by decide +kernel) (pa_cons (pv 1) (pa_cons (pe_glob (v := .ref T.C_Clip) (by rfl) T.g_Clip rfl) pa_nil))))) (pss_one (ps_raise rfl (takes_of rfl rfl rfl rfl) (My.pmk0 T.o_OutOfPlace T.i_OutOfPlace T.t_OutOfPlace (oki_OutOfPlace T) (hr.mono (by decide)) T.bi_OutOfPlace T.g_OutOfPlace (pa_cons pe_str pa_nil)))) pss_nil)
      (pss_cons (ps_if (PW.pt (pw_or (pt_cmpR (op_neD hr.units) (pe_fld (pv 0) rfl) (pe_fld (pv 1) rfl) (nomark _)) (pw_or1 (pt_cmpR (op_neD hr.units) (pe_fld (pv 0) rfl) (pe_fld (pv 1) rfl) (nomark _))))) (pss_one (ps_ret pe_bl)) pss_nil)
      (pss_one (ps_ret (pe_cmpR (op_eqD hr.units) (pe_slice sl_tupA (pe_fld (pv 0) rfl) po_none (po_some (pe_callB (call_len_seq) (by rfl) T.z_len (by decide +kernel) (pa_cons (pe_fld (pv 1) rfl) pa_nil)))) (pe_fld (pv 1) rfl) (nomark _))))))
, ?_⟩
    rcases h with ⟨T', hT', ty, q⟩ | ⟨p', C', row', st', rfl, hS', q⟩
    · refine ⟨_, rfl, _, .ref T.C_Clip, _, _, _, rfl, .own _, ty, T.is_Clip.no T' hT', _, rfl, ?_⟩
      refine iteT ?_
      refine ⟨by decide, fun a ha => ⟨a, _, rfl, upd_same, rfl, upd_same, ?_⟩⟩
      rw [del_new ha]
      exact q H (Same.refl H)
    · obtain ⟨dx', c', r', x', hp', hc', hrow', hx'⟩ := hS'.ex
      refine ⟨_, rfl, _, .ref T.C_Clip, _, _, _, rfl, .own _, T.is_Clip.ty T.cl_Clip hp', kit_selfC, _, rfl, ?_⟩
      refine iteF ?_
      refine ⟨_, rfl, p, T.C_Clip, dx, _, _, rfl, hp, T.cl_Clip, T.na_Clip__coder, rfl, _, rfl, p', T.C_Clip, dx', _, _, rfl, hp', T.cl_Clip, T.na_Clip__coder, rfl, C.dat, C'.dat, hc, hc', shaped_cod C, shaped_cod C', _, rfl, ?_⟩
      rw [eqv_codC]
      by_cases e1 : C = C'
      · rw [decide_eq_true e1]
        refine iteF ?_
        refine ⟨_, rfl, p, T.C_Clip, dx, _, _, rfl, hp, T.cl_Clip, T.na_Clip__state, rfl, _, rfl, p', T.C_Clip, dx', _, _, rfl, hp', T.cl_Clip, T.na_Clip__state, rfl, pairI st, pairI st', hx, hx', shaped_pairC st, shaped_pairC st', _, rfl, ?_⟩
        rw [eqv_pairC]
        by_cases e2 : st = st'
        · rw [decide_eq_true e2]
          refine iteF ?_
          obtain ⟨ra, rfl, hra⟩ := row_at hrow
          obtain ⟨ra', rfl, hra'⟩ := row_at hrow'
          refine ⟨_, rfl, p, T.C_Clip, dx, _, _, rfl, hp, T.cl_Clip, T.na_Clip__codes, rfl, _, rfl, p', T.C_Clip, dx', _, _, rfl, hp', T.cl_Clip, T.na_Clip__codes, rfl, ra', _, rfl, .inr hra', _, rfl, ?_⟩
          refine sl_takeA (n := (rowV row').length) hra fun b H1 s1 hb => ?_
          have hb' : Dp K H1 (.ref b) (rowI (row.take row'.length)) := by
            rw [show (rowV row').length = row'.length from List.length_map .., show (rowV row).take row'.length = rowV (row.take row'.length) from List.map_take.symm] at hb
            exact dp_row hb
          refine ⟨_, rfl, p', T.C_Clip, dx', _, _, rfl, s1 _ _ hp', T.cl_Clip, T.na_Clip__codes, rfl, _, _, hb', dp_same s1 _ _ hrow', shaped_rowC _, shaped_rowC _, ?_⟩
          rw [eqv_rowC]
          refine q _ H1 s1 ?_
          rw [decide_eq_true_eq]
          exact ⟨fun h => ⟨e1, e2, h⟩, fun h => h.2.2⟩
        · rw [decide_eq_false e2]
          refine iteT ?_
          exact q false H (Same.refl H) ⟨nofun, fun h => absurd h.2.1 e2⟩
      · rw [decide_eq_false e1]
        refine iteT ?_
        exact q false H (Same.refl H) ⟨nofun, fun h => absurd h.1 e1⟩
end
end My

/-! an own class asked for a built-in type -/
namespace My
open PySem PySem.Spec PyProof.Rows L2
theorem kit_ownT {K : PySem.W.Frag} {C : Addr} {T : String} (m : PySem.W.kitMeta T = true) (s : PySem.W.subIn K (.ref C) (.type T) = some false) : PySem.W.kitOne K (.ref C) (.type T) = some false := by
  unfold PySem.W.kitOne PySem.W.kitCls
  rw [if_neg (fun z => by have := beq_iff_eq.mp z; cases this)]
  show (if PySem.W.kitMeta T = true then PySem.W.subIn K (.ref C) (.type T) else none) = some false
  rw [if_pos m]
  exact s
end My

set_option pp.maxSteps 600
/-! repetitions of clips, samples in clips, codes appended, with what is refused -/
namespace My
open PySem PySem.Spec PyProof.Rows L2
theorem flat_mem {t : Nat} {row : List Nat} {k : Nat} (h : k ∈ (List.replicate t row).flatten) : k ∈ row := by
  obtain ⟨l, hl, hk⟩ := List.mem_flatten.mp h
  rw [List.eq_of_mem_replicate hl] at hk
  exact hk
theorem flat_len2 {α : Type} (row : List α) : ∀ t : Nat, ((List.replicate t row).flatten).length = row.length * t
  | 0 => rfl
  | t + 1 => by rw [List.replicate_succ, List.flatten_cons, List.length_append, flat_len2 row t, Nat.mul_succ]; omega
theorem rowV_flat (row : List Nat) : ∀ t : Nat, (List.replicate t (rowV row)).flatten = rowV ((List.replicate t row).flatten)
  | 0 => rfl
  | t + 1 => by
    rw [List.replicate_succ, List.flatten_cons, rowV_flat row t, List.replicate_succ, List.flatten_cons]
    exact List.map_append.symm
/-- any thing: data, or what is no int -/
def An (K : PySem.W.Frag) (H : Hp) (x : V) : Option PyData → Prop
  | some d => Dp K H x d
  | none => ∃ t, TyX K H x t ∧ PySem.W.kitOne K t (.type "int") = some false
def intO : Option PyData → Bool
  | some d => intD d
  | none => false
def btwO (o : Option PyData) (lo hi : Int) : Bool := match o with
  | some d => btw d lo hi
  | none => false
theorem btwO_not {o : Option PyData} (h : intO o = false) (lo hi : Int) : btwO o lo hi = false := by
  cases o with
  | none => rfl
  | some d => exact btw_not h lo hi
theorem intO_int {o : Option PyData} (h : intO o = true) : ∃ n, o = some (.int n) := by
  cases o with
  | none => cases h
  | some d =>
    obtain ⟨n, rfl⟩ := intD_int h
    exact ⟨n, rfl⟩
theorem btwO_in {o : Option PyData} (h : btwO o 0 2000 = true) : ∃ t : Nat, o = some (.int (t : Int)) ∧ t ≤ 2000 := by
  have hi : intO o = true := by
    cases e : intO o with
    | true => rfl
    | false => rw [btwO_not e] at h; cases h
  obtain ⟨n, rfl⟩ := intO_int hi
  obtain ⟨h1, h2⟩ := Bool.and_eq_true_iff.mp (show (decide ((0 : Int) ≤ n) && decide (n ≤ 2000)) = true from h)
  have h1 := of_decide_eq_true h1
  have h2 := of_decide_eq_true h2
  obtain ⟨t, rfl⟩ := Int.eq_ofNat_of_zero_le h1
  exact ⟨t, rfl, by omega⟩
def inO (o : Option PyData) (L : List Int) : Bool := match o with
  | some (.int n) => L.any fun z => z == n
  | _ => false
theorem inV_int (n : Int) (L : List Int) : inV (.int n) (L.map V.int) = L.any fun z => z == n := by
  unfold inV
  rw [List.any_map]
  rfl
section
variable {P : Program} {w : World} {K : PySem.W.Frag} {mg : Str → Option Value} {base : Heap}
def spZ_is_integer (K : PySem.W.Frag) : Sp := fun vs H Q _ => ∃ (x : V) (o : Option PyData), vs = [x] ∧ An K H x o ∧ ∀ H', Same H H' → Q (.bl (intO o)) H'
theorem okZ_is_integer (T : Txt K mg) : FnOk P w K mg base CX0 1 T.f_is_integer T.d_is_integer ["thing"] (spZ_is_integer K) := by
  refine T.F_is_integer.ok sc_is_integer (fun vs H Q E h => ?_) (fun cdv A outer s H vs Q E hr h => ?_)
  · obtain ⟨x, o, rfl, _⟩ := h
    rfl
  · obtain ⟨x, o, rfl, ho, q⟩ := h
    refine ⟨_,
(pss_one (ps_ret (pe_and (pe_callB (call_isi) (by rfl) T.z_isinstance (by decide +kernel) (pa_cons (pv 0) (pa_cons (pe_bltn (v := .ty "int") (by rfl) T.z_int (by decide +kernel) rfl) pa_nil))) (pe_one (pe_not (pe_callB (call_isi) (by rfl) T.z_isinstance (by decide +kernel) (pa_cons (pv 0) (pa_cons (pe_bltn (v := .ty "bool") (by rfl) T.z_bool (by decide +kernel) rfl) pa_nil))))))))
, ?_⟩
    cases o with
    | none =>
      obtain ⟨t, t1, t2⟩ := ho
      refine ⟨x, rfl, x, .ty "int", _, _, _, rfl, .ty _, t1, t2, _, rfl, ?_⟩
      exact iteF (q H (Same.refl H))
    | some d =>
      have hd : Dp K H x d := ho
      have q' : ∀ b, intD d = b → Q (.bl b) H := fun b e => e ▸ q H (Same.refl H)
      refine ⟨x, rfl, x, .ty "int", _, _, _, rfl, .ty _, tyx hd, kitI d, _, rfl, ?_⟩
      cases h1 : isI d with
      | false => exact iteF (q' _ (by unfold intD; rw [h1]; rfl))
      | true =>
        refine iteT ?_
        refine ⟨_, rfl, _, .ty "bool", _, _, _, rfl, .ty _, tyx hd, kitBo d, _, rfl, ?_⟩
        exact q' _ (by unfold intD; rw [h1]; rfl)
def spZ_is_between (K : PySem.W.Frag) : Sp := fun vs H Q _ => ∃ (x : V) (o : Option PyData) (lo hi : Int), vs = [x, .int lo, .int hi] ∧ An K H x o ∧ ∀ H', Same H H' → Q (.bl (btwO o lo hi)) H'
theorem okZ_is_between (T : Txt K mg) : FnOk P w K mg base CX0 2 T.f_is_between T.d_is_between ["thing", "least", "most"] (spZ_is_between K) := by
  refine T.F_is_between.ok sc_is_between (fun vs H Q E h => ?_) (fun cdv A outer s H vs Q E hr h => ?_)
  · obtain ⟨x, o, lo, hi, rfl, _⟩ := h
    rfl
  · obtain ⟨x, o, lo, hi, rfl, ho, q⟩ := h
    refine ⟨_,
(pss_one (ps_ret (pe_and (pe_call (okZ_is_integer T) (hr.mono (by decide)) (by rfl) T.g_is_integer T.F_is_integer.kp T.b_is_integer .nil pass0 (pa_cons (pv 0) pa_nil)) (pe_one (pe_chain op_le op_le (pv 1) (pv 0) (pv 2))))))
, ?_⟩
    refine ⟨x, rfl, x, o, rfl, ho, fun H1 s1 => ⟨_, rfl, ?_⟩⟩
    have q' : ∀ b, btwO o lo hi = b → Q (.bl b) H1 := fun b e => e ▸ q H1 s1
    cases h1 : intO o with
    | false => exact iteF (q' _ (btwO_not h1 lo hi))
    | true =>
      obtain ⟨n, rfl⟩ := intO_int h1
      cases (show Dp K H x (.int n) from ho)
      refine iteT ?_
      refine ⟨_, rfl, _, rfl, lo, n, rfl, rfl, _, rfl, ?_⟩
      refine ite2 (fun e => ?_) (fun e => ?_)
      · refine ⟨_, rfl, n, hi, rfl, rfl, ?_⟩
        exact q' _ (by show (decide (lo ≤ n) && decide (n ≤ hi)) = _; rw [e]; rfl)
      · exact q' _ (by show (decide (lo ≤ n) && decide (n ≤ hi)) = _; rw [Bool.not_eq_true] at e; rw [e]; rfl)
def RepA (T : Txt K mg) (o : Option PyData) (len : Nat) (H : Hp) (E : XK) : Prop :=
  (btwO o 0 2000 = false → NilE T.C_OutOfPlace H E) ∧ ∀ t : Nat, o = some (.int (t : Int)) → t ≤ 2000 → 2000 < len * t → OneE T.C_TooGreat "most" H E (.int 2000)
def sp_need_repeats (T : Txt K mg) : Sp := fun vs H Q E => ∃ (c y : V) (row : List Nat) (o : Option PyData), vs = [c, y] ∧ Dp K H c (rowI row) ∧ An K H y o ∧ RepA T o row.length H E ∧
  ∀ t : Nat, o = some (.int (t : Int)) → t ≤ 2000 → row.length * t ≤ 2000 → ∀ H', Same H H' → Q .non H'
theorem ok_need_repeats (T : Txt K mg) : FnOk P w K mg base (L2.CX P w) 6 T.f__need_repeats T.d__need_repeats ["codes", "times"] (sp_need_repeats T) := by
  refine T.F__need_repeats.okX sc_need_repeats (fun vs H Q E h => ?_) (fun cdv A outer s H vs Q E hr h => ?_)
  · obtain ⟨c, y, row, o, rfl, _⟩ := h
    rfl
  · obtain ⟨c, y, row, o, rfl, hc, ho, ⟨q1, q2⟩, q⟩ := h
    obtain ⟨ra, rfl, hra⟩ := row_at hc
    have l1 : (rowV row).length = row.length := List.length_map ..
    refine ⟨_,
(pss_cons (ps_if (pt_not (pt_val (pe_call (okZ_is_between T) (hr.mono (by decide)) (by rfl) T.g_is_between T.F_is_between.kp T.b_is_between .nil pass0 (pa_cons (pv 1) (pa_cons pe_int (pa_cons (pe_glob (v := .int 2000) (by rfl) T.g_MOST_CODES ⟨_, rfl⟩) pa_nil)))))) (pss_one (ps_raise rfl (takes_of rfl rfl rfl rfl) (My.pmk0 T.o_OutOfPlace T.i_OutOfPlace T.t_OutOfPlace (oki_OutOfPlace T) (hr.mono (by decide)) T.bi_OutOfPlace T.g_OutOfPlace (pa_cons pe_str pa_nil)))) pss_nil)
      (pss_one (ps_expr (pe_call (ok_need_few_codes T) (hr.mono (by decide)) (by rfl) T.g__need_few_codes T.F__need_few_codes.kp T.b__need_few_codes .nil (passes_call (takes_of rfl rfl rfl rfl) (fun _ _ _ _ h => h)) (pa_cons (pe_op op_mul (pe_callB (call_len_seq) (by rfl) T.z_len (by decide +kernel) (pa_cons (pv 0) pa_nil)) (pv 1)) pa_nil)))))
, ?_⟩
    refine ⟨_, rfl, y, o, 0, 2000, rfl, ho, fun H1 s1 => ⟨_, rfl, ?_⟩⟩
    cases hb : btwO o 0 2000 with
    | false =>
      refine iteT ?_
      refine ⟨by decide, fun a ha => ⟨a, _, rfl, upd_same, rfl, upd_same, ?_⟩⟩
      rw [del_new ha]
      exact q1 hb H1 s1
    | true =>
      obtain ⟨t, rfl, ht⟩ := btwO_in hb
      cases (show Dp K H y (.int (t : Int)) from ho)
      refine iteF ?_
      refine ⟨_, rfl, ra, _, rfl, .inr (same_tup s1 hra), _, rfl, _, _, rfl, rfl, .inr ⟨by omega, by omega⟩, _, rfl, fun hle => ?_, fun hgt => ?_⟩
      · refine q t rfl ht ?_ H1 s1
        rw [l1, ← Int.natCast_mul] at hle
        omega
      · refine (q2 t rfl ht ?_).same s1
        rw [l1, ← Int.natCast_mul] at hgt
        omega
def sp_Clip_mul (T : Txt K mg) : Sp := fun vs H Q E => ∃ (p : Addr) (y : V) (C : Cod) (row : List Nat) (s : Int × Int) (o : Option PyData), vs = [.ref p, y] ∧ ClS T H p C row s ∧ An K H y o ∧ RepA T o row.length H E ∧
  ∀ t : Nat, o = some (.int (t : Int)) → t ≤ 2000 → row.length * t ≤ 2000 → ∀ q H1, Same H H1 → H q = none → ClS T H1 q C ((List.replicate t row).flatten) s → Q (.ref q) H1
theorem ok_Clip_mul (T : Txt K mg) : FnOk P w K mg base (L2.CX P w) 12 T.f_Clip_mul T.d_Clip_mul ["self", "other"] (sp_Clip_mul T) := by
  refine T.F_Clip_mul.okX sc_Clip_mul (fun vs H Q E h => ?_) (fun cdv A outer s H vs Q E hr h => ?_)
  · obtain ⟨p, y, C, row, s, o, rfl, _⟩ := h
    rfl
  · obtain ⟨p, y, C, row, st, o, rfl, hS, ho, rep, q⟩ := h
    obtain ⟨dx, c, r, x, hp, hc, hrow, hx⟩ := hS.ex
    refine ⟨_,
(pss_cons (ps_expr (pe_call (ok_need_repeats T) (hr.mono (by decide)) (by rfl) T.g__need_repeats T.F__need_repeats.kp T.b__need_repeats .nil (passes_call (takes_of rfl rfl rfl rfl) (fun _ _ _ _ h => h)) (pa_cons (pe_fld (pv 0) rfl) (pa_cons (pv 1) pa_nil))))
      (pss_one (ps_ret (pe_makeK T.mk_Clip (ok_Clip_init T) (hr.mono (by decide)) (by rfl) T.g_Clip T.k_Clip_init (passes_call (takes_of rfl rfl rfl rfl) (fun _ _ _ _ h => h)) (pa_cons (pe_fld (pv 0) rfl) (pa_cons (pe_op My.op_repB (pe_fld (pv 0) rfl) (pv 1)) pa_nil)) (pk_cons (pe_fld (pv 0) rfl) pk_nil)))))
, ?_⟩
    refine ⟨_, rfl, p, T.C_Clip, dx, _, _, rfl, hp, T.cl_Clip, T.na_Clip__codes, rfl, _, rfl, r, y, row, o, rfl, hrow, ho, rep, fun t e ht hl H1 s1 => ?_⟩
    subst e
    cases (show Dp K H y (.int (t : Int)) from ho)
    obtain ⟨ra, rfl, hra⟩ := row_at hrow
    have l1 : (rowV row).length = row.length := List.length_map ..
    have hrl := hS.R.1
    refine ⟨_, rfl, p, T.C_Clip, dx, _, _, rfl, s1 _ _ hp, T.cl_Clip, T.na_Clip__coder, rfl, _, rfl, p, T.C_Clip, dx, _, _, rfl, s1 _ _ hp, T.cl_Clip, T.na_Clip__codes, rfl, _, rfl, ra, t, rowV row, rfl, rfl, same_tup s1 hra, ht, by rw [l1]; exact hrl, by rw [l1]; exact hl, fun z2 H2 s2 hz2 => ?_⟩
    have s12 := s1.trans s2
    rw [rowV_flat] at hz2
    have R2 : C.Row ((List.replicate t row).flatten) := ⟨by rw [flat_len2]; exact hl, fun k hk => hS.R.lt k (flat_mem hk)⟩
    refine ⟨_, rfl, p, T.C_Clip, dx, _, _, rfl, s12 _ _ hp, T.cl_Clip, T.na_Clip__state, rfl, rfl, rfl, fun z dz hz hdz ne => ?_⟩
    refine clip_mk (T := T) hz hdz hS.O (dp_same s12 _ _ hc) (dp_row hz2) R2 (dp_same s12 _ _ hx) hS.St fun H6 s6 hcl => ⟨rfl, ?_⟩
    exact q t rfl ht hl z _ (s12.trans s6) (s12.free hz) hcl
def sp_Clip_rmul (T : Txt K mg) : Sp := fun vs H Q E => ∃ (p : Addr) (y : V) (C : Cod) (row : List Nat) (s : Int × Int) (o : Option PyData), vs = [.ref p, y] ∧ ClS T H p C row s ∧ An K H y o ∧ RepA T o row.length H E ∧
  ∀ t : Nat, o = some (.int (t : Int)) → t ≤ 2000 → row.length * t ≤ 2000 → ∀ q H1, Same H H1 → H q = none → ClS T H1 q C ((List.replicate t row).flatten) s → Q (.ref q) H1
theorem ok_Clip_rmul (T : Txt K mg) : FnOk P w K mg base (L2.CX P w) 12 T.f_Clip_rmul T.d_Clip_rmul ["self", "other"] (sp_Clip_rmul T) := by
  refine T.F_Clip_rmul.okX sc_Clip_rmul (fun vs H Q E h => ?_) (fun cdv A outer s H vs Q E hr h => ?_)
  · obtain ⟨p, y, C, row, s, o, rfl, _⟩ := h
    rfl
  · obtain ⟨p, y, C, row, st, o, rfl, hS, ho, rep, q⟩ := h
    obtain ⟨dx, c, r, x, hp, hc, hrow, hx⟩ := hS.ex
    refine ⟨_,
(pss_cons (ps_expr (pe_call (ok_need_repeats T) (hr.mono (by decide)) (by rfl) T.g__need_repeats T.F__need_repeats.kp T.b__need_repeats .nil (passes_call (takes_of rfl rfl rfl rfl) (fun _ _ _ _ h => h)) (pa_cons (pe_fld (pv 0) rfl) (pa_cons (pv 1) pa_nil))))
      (pss_one (ps_ret (pe_makeK T.mk_Clip (ok_Clip_init T) (hr.mono (by decide)) (by rfl) T.g_Clip T.k_Clip_init (passes_call (takes_of rfl rfl rfl rfl) (fun _ _ _ _ h => h)) (pa_cons (pe_fld (pv 0) rfl) (pa_cons (pe_op My.op_repB (pe_fld (pv 0) rfl) (pv 1)) pa_nil)) (pk_cons (pe_fld (pv 0) rfl) pk_nil)))))
, ?_⟩
    refine ⟨_, rfl, p, T.C_Clip, dx, _, _, rfl, hp, T.cl_Clip, T.na_Clip__codes, rfl, _, rfl, r, y, row, o, rfl, hrow, ho, rep, fun t e ht hl H1 s1 => ?_⟩
    subst e
    cases (show Dp K H y (.int (t : Int)) from ho)
    obtain ⟨ra, rfl, hra⟩ := row_at hrow
    have l1 : (rowV row).length = row.length := List.length_map ..
    have hrl := hS.R.1
    refine ⟨_, rfl, p, T.C_Clip, dx, _, _, rfl, s1 _ _ hp, T.cl_Clip, T.na_Clip__coder, rfl, _, rfl, p, T.C_Clip, dx, _, _, rfl, s1 _ _ hp, T.cl_Clip, T.na_Clip__codes, rfl, _, rfl, ra, t, rowV row, rfl, rfl, same_tup s1 hra, ht, by rw [l1]; exact hrl, by rw [l1]; exact hl, fun z2 H2 s2 hz2 => ?_⟩
    have s12 := s1.trans s2
    rw [rowV_flat] at hz2
    have R2 : C.Row ((List.replicate t row).flatten) := ⟨by rw [flat_len2]; exact hl, fun k hk => hS.R.lt k (flat_mem hk)⟩
    refine ⟨_, rfl, p, T.C_Clip, dx, _, _, rfl, s12 _ _ hp, T.cl_Clip, T.na_Clip__state, rfl, rfl, rfl, fun z dz hz hdz ne => ?_⟩
    refine clip_mk (T := T) hz hdz hS.O (dp_same s12 _ _ hc) (dp_row hz2) R2 (dp_same s12 _ _ hx) hS.St fun H6 s6 hcl => ⟨rfl, ?_⟩
    exact q t rfl ht hl z _ (s12.trans s6) (s12.free hz) hcl
def sp_Clip_contains (T : Txt K mg) : Sp := fun vs H Q _ => ∃ (p : Addr) (y : V) (C : Cod) (row : List Nat) (s : Int × Int) (o : Option PyData), vs = [.ref p, y] ∧ ClS T H p C row s ∧ An K H y o ∧ ∀ H1, Same H H1 → Q (.bl (inO o (C.lev s row))) H1
theorem ok_Clip_contains (T : Txt K mg) : FnOk P w K mg base CX0 6 T.f_Clip_contains T.d_Clip_contains ["self", "x"] (sp_Clip_contains T) := by
  refine T.F_Clip_contains.ok sc_Clip_contains (fun vs H Q E h => ?_) (fun cdv A outer s H vs Q E hr h => ?_)
  · obtain ⟨p, y, C, row, s, o, rfl, _⟩ := h
    rfl
  · obtain ⟨p, y, C, row, st, o, rfl, hS, ho, q⟩ := h
    obtain ⟨dx, c, r, x, hp, hc, hrow, hx⟩ := hS.ex
    refine ⟨_,
(pss_one (ps_ret (pe_and (pe_call (okZ_is_integer T) (hr.mono (by decide)) (by rfl) T.g_is_integer T.F_is_integer.kp T.b_is_integer .nil pass0 (pa_cons (pv 1) pa_nil)) (pe_one (pe_cmpR op_in_seq (pv 1) (pe_call (ok_samples_along T) (hr.mono (by decide)) (by rfl) T.g_samples_along T.F_samples_along.kp T.b_samples_along .nil pass0 (pa_cons (pe_fld (pv 0) rfl) (pa_cons (pe_fld (pv 0) rfl) (pa_cons (pe_fld (pv 0) rfl) pa_nil)))) (by with_unfolding_all rfl))))))
, ?_⟩
    refine ⟨_, rfl, y, o, rfl, ho, fun H1 s1 => ⟨_, rfl, ?_⟩⟩
    cases h1 : intO o with
    | false =>
      refine iteF ?_
      have e : inO o (C.lev st row) = false := by
        cases o with
        | none => rfl
        | some d => cases d <;> first | rfl | cases h1
      rw [← e]
      exact q H1 s1
    | true =>
      obtain ⟨n, rfl⟩ := intO_int h1
      cases (show Dp K H y (.int n) from ho)
      refine iteT ?_
      refine ⟨_, rfl, _, rfl, p, T.C_Clip, dx, _, _, rfl, s1 _ _ hp, T.cl_Clip, T.na_Clip__coder, rfl, _, rfl, p, T.C_Clip, dx, _, _, rfl, s1 _ _ hp, T.cl_Clip, T.na_Clip__codes, rfl, _, rfl, p, T.C_Clip, dx, _, _, rfl, s1 _ _ hp, T.cl_Clip, T.na_Clip__state, rfl, c, r, x, C, row, st, rfl, hS.O, dp_same s1 _ _ hc, dp_same s1 _ _ hrow, hS.R, dp_same s1 _ _ hx, hS.St, fun l H2 s2 hl hL => ?_⟩
      refine ⟨l, _, rfl, .inl (SqL.of hL), rfl, ?_, ?_⟩
      · rw [List.all_map, List.all_eq_true]
        exact fun _ _ => rfl
      · show Q (.bl (inV (.int n) ((C.lev st row).map V.int))) H2
        rw [inV_int]
        exact q H2 (s1.trans s2)
theorem okI_need_row (T : Txt K mg) : FnOk P w K mg base (L2.CX P w) 4 T.f_need_row T.d_need_row ["coder", "thing"] (fun vs H _ E => ∃ (c : V) (p dx : Addr) (fs : List (Str × V)), vs = [c, .ref p] ∧ H p = some (.ins T.C_Clip dx fs) ∧ RowE T.C_BadRow H E 0 0) := by
  refine T.F_need_row.okX sc_need_row (fun vs H Q E h => ?_) (fun cdv A outer s H vs Q E hr h => ?_)
  · obtain ⟨c, p, dx, fs, rfl, _⟩ := h
    rfl
  · obtain ⟨c, p, dx, fs, rfl, hp, q⟩ := h
    refine ⟨_,
(pss_cons (ps_if (pt_not (pt_val (pe_callB (call_isi) (by rfl) T.z_isinstance (by decide +kernel) (pa_cons (pv 1) (pa_cons (pe_bltn (v := .ty "tuple") (by rfl) T.z_tuple (by decide +kernel) rfl) pa_nil))))) (pss_one (ps_raise rfl (takes_of rfl rfl rfl rfl) (pmk_oex T.o_BadRow T.i_BadRow T.t_BadRow (oki_BadRow T) (hr.mono (by decide)) T.bi_BadRow .nil pass0 (by rfl) T.g_BadRow (pa_cons pe_int (pa_cons pe_int pa_nil))))) pss_nil)
      (pss_one (ps_for (passes_of rfl) rfl (My.pi_enumT (by rfl) T.z_enumerate (pa_cons (pv 1) pa_nil)) (pg_tup (by rfl) (pgs_cons (pg_name (i := 2) sc_need_row.nd rfl (Or.inl rfl)) (pgs_cons (pg_name (i := 3) sc_need_row.nd rfl (Or.inl rfl)) pgs_nil))) (pss_one (ps_if (PW.pt (pw_or (pt_cmpR op_eq (pv 2) (pe_glob (v := .int 2000) (by rfl) T.g_MOST_CODES ⟨_, rfl⟩) (nomark _)) (pw_or1 (pt_not (pt_val (pe_call (ok_is_code T) (hr.mono (by decide)) (by rfl) T.g_is_code T.F_is_code.kp T.b_is_code .nil pass0 (pa_cons (pv 0) (pa_cons (pv 3) pa_nil)))))))) (pss_one (ps_raise rfl (takes_of rfl rfl rfl rfl) (pmk_oex T.o_BadRow T.i_BadRow T.t_BadRow (oki_BadRow T) (hr.mono (by decide)) T.bi_BadRow .nil pass0 (by rfl) T.g_BadRow (pa_cons pe_int (pa_cons (pe_op op_add (pv 2) pe_int) pa_nil))))) pss_nil)))))
, ?_⟩
    refine ⟨_, rfl, _, .ty "tuple", _, _, _, rfl, .ty _, T.is_Clip.ty T.cl_Clip hp, kit_ownT (by decide +kernel) T.sk_Clip, _, rfl, ?_⟩
    refine iteT ?_
    refine ⟨by decide, fun a ha => ⟨a, .int 0, .int 0, rfl, upd_same, fun d hd n => ⟨rfl, d, _, (upd_ne n.symm).trans upd_same, upd_same, (upd_ne n).symm.trans hd, rowE_mk q ha hd n⟩⟩⟩
def IaA (T : Txt K mg) (p dx : Addr) (c r x y : V) (C : Cod) (row : List Nat) (H : Hp) (Q : VK) (E : XK) : Prop :=
  (∃ rr i j, Th K H y rr ∧ rowRes C rr = some (i, j) ∧ RowE T.C_BadRow H E i j) ∨
  (∃ (p' dx' : Addr) (fs : List (Str × V)), y = .ref p' ∧ H p' = some (.ins T.C_Clip dx' fs) ∧ RowE T.C_BadRow H E 0 0) ∨
  ∃ more : List Nat, Dp K H y (rowI more) ∧ C.Row more ∧ (2000 < row.length + more.length → OneE T.C_TooGreat "most" H E (.int 2000)) ∧
    (row.length + more.length ≤ 2000 → ∀ r' H1, Same H H1 → Dp K H1 r' (rowI (row ++ more)) → Q (.ref p) (upd H1 p (clO T dx c r' x)))
def sp_Clip_iaddR (T : Txt K mg) : Sp := fun vs H Q E => ∃ (p dx : Addr) (c r x y : V) (C : Cod) (row : List Nat), vs = [.ref p, y] ∧ H p = some (clO T dx c r x) ∧ Dp K H c C.dat ∧ Dp K H r (rowI row) ∧ row.length ≤ 2000 ∧ IaA T p dx c r x y C row H Q E
theorem ok_Clip_iaddR (T : Txt K mg) : FnOk P w K mg base (L2.CX P w) 6 T.f_Clip_iadd T.d_Clip_iadd ["self", "other"] (sp_Clip_iaddR T) := by
  refine T.F_Clip_iadd.okX sc_Clip_iadd (fun vs H Q E h => ?_) (fun cdv A outer s H vs Q E hr h => ?_)
  · obtain ⟨p, dx, c, r, x, y, C, row, rfl, _⟩ := h
    rfl
  · obtain ⟨p, dx, c, r, x, y, C, row, rfl, hp, hc, hrow, hrl, h⟩ := h
    obtain ⟨ra, rfl, hra⟩ := row_at hrow
    have l1 : (rowV row).length = row.length := List.length_map ..
    rcases h with ⟨rr, i, j, hy, hbad, q⟩ | ⟨p', dx', fs, rfl, hp', q⟩ | ⟨more, hy, R, q2, q⟩
    · refine ⟨_,
(pss_cons (ps_expr (pe_call (ok_need_row T) (hr.mono (by decide)) (by rfl) T.g_need_row T.F_need_row.kp T.b_need_row .nil (passes_call (takes_of rfl rfl rfl rfl) (fun _ _ _ _ h => h)) (pa_cons (pe_fld (pv 0) rfl) (pa_cons (pv 1) pa_nil))))
      (pss_cons (ps_expr (pe_call (ok_need_few_codes T) (hr.mono (by decide)) (by rfl) T.g__need_few_codes T.F__need_few_codes.kp T.b__need_few_codes .nil (passes_call (takes_of rfl rfl rfl rfl) (fun _ _ _ _ h => h)) (pa_cons (pe_op op_add (pe_callB (call_len_seq) (by rfl) T.z_len (by decide +kernel) (pa_cons (pe_fld (pv 0) rfl) pa_nil)) (pe_callB (call_len_seq) (by rfl) T.z_len (by decide +kernel) (pa_cons (pv 1) pa_nil))) pa_nil)))
      (pss_cons (ps_fld (pv 0) (pe_op op_catA (pe_fld (pv 0) rfl) (pv 1)) rfl)
      (pss_one (ps_ret (pv 0))))))
, ?_⟩
      refine ⟨_, rfl, p, T.C_Clip, dx, _, _, rfl, hp, T.cl_Clip, T.na_Clip__coder, rfl, _, rfl, c, y, C, rr, rfl, hc, hy, fun e => (by rw [hbad] at e; cases e), fun i' j' e => ?_⟩
      rw [hbad] at e
      cases e
      exact q
    · refine ⟨_,
(pss_cons (ps_expr (pe_call (okI_need_row T) (hr.mono (by decide)) (by rfl) T.g_need_row T.F_need_row.kp T.b_need_row .nil (passes_call (takes_of rfl rfl rfl rfl) (fun _ _ _ _ h => h)) (pa_cons (pe_fld (pv 0) rfl) (pa_cons (pv 1) pa_nil))))
      (pss_cons (ps_expr (pe_call (ok_need_few_codes T) (hr.mono (by decide)) (by rfl) T.g__need_few_codes T.F__need_few_codes.kp T.b__need_few_codes .nil (passes_call (takes_of rfl rfl rfl rfl) (fun _ _ _ _ h => h)) (pa_cons (pe_op op_add (pe_callB (call_len_seq) (by rfl) T.z_len (by decide +kernel) (pa_cons (pe_fld (pv 0) rfl) pa_nil)) (pe_callB (call_len_seq) (by rfl) T.z_len (by decide +kernel) (pa_cons (pv 1) pa_nil))) pa_nil)))
      (pss_cons (ps_fld (pv 0) (pe_op op_catA (pe_fld (pv 0) rfl) (pv 1)) rfl)
      (pss_one (ps_ret (pv 0))))))
, ?_⟩
      exact ⟨_, rfl, p, T.C_Clip, dx, _, _, rfl, hp, T.cl_Clip, T.na_Clip__coder, rfl, _, rfl, c, p', dx', fs, rfl, hp', q⟩
    · obtain ⟨ya, rfl, hya⟩ := row_at hy
      have l2 : (rowV more).length = more.length := List.length_map ..
      have hml := R.1
      refine ⟨_,
(pss_cons (ps_expr (pe_call (ok_need_row T) (hr.mono (by decide)) (by rfl) T.g_need_row T.F_need_row.kp T.b_need_row .nil (passes_call (takes_of rfl rfl rfl rfl) (fun _ _ _ _ h => h)) (pa_cons (pe_fld (pv 0) rfl) (pa_cons (pv 1) pa_nil))))
      (pss_cons (ps_expr (pe_call (ok_need_few_codes T) (hr.mono (by decide)) (by rfl) T.g__need_few_codes T.F__need_few_codes.kp T.b__need_few_codes .nil (passes_call (takes_of rfl rfl rfl rfl) (fun _ _ _ _ h => h)) (pa_cons (pe_op op_add (pe_callB (call_len_seq) (by rfl) T.z_len (by decide +kernel) (pa_cons (pe_fld (pv 0) rfl) pa_nil)) (pe_callB (call_len_seq) (by rfl) T.z_len (by decide +kernel) (pa_cons (pv 1) pa_nil))) pa_nil)))
      (pss_cons (ps_fld (pv 0) (pe_op op_catA (pe_fld (pv 0) rfl) (pv 1)) rfl)
      (pss_one (ps_ret (pv 0))))))
, ?_⟩
      refine ⟨_, rfl, p, T.C_Clip, dx, _, _, rfl, hp, T.cl_Clip, T.na_Clip__coder, rfl, _, rfl, c, .ref ya, C, some (more.map fun k : Nat => PyData.int (k : Int)), rfl, hc, hy, fun _ H1 s1 => ?_, fun i j e => (by rw [rowRes_row' R] at e; cases e)⟩
      refine ⟨_, rfl, p, T.C_Clip, dx, _, _, rfl, s1 _ _ hp, T.cl_Clip, T.na_Clip__codes, rfl, ra, _, rfl, .inr (same_tup s1 hra), _, rfl, ya, _, rfl, .inr (same_tup s1 hya), _, _, rfl, rfl, _, rfl, fun hle => ?_, fun h => (q2 (by rw [l1, l2] at h; omega)).same s1⟩
      rw [l1, l2] at hle
      refine ⟨_, rfl, p, T.C_Clip, dx, _, _, rfl, s1 _ _ hp, T.cl_Clip, T.na_Clip__codes, rfl, _, rfl, ?_⟩
      refine cat_any (same_tup s1 hra) (same_tup s1 hya) (by rw [l1, l2]; exact sz_line (by omega)) fun z H2 s2 hz => ?_
      have s12 := s1.trans s2
      refine ⟨_, rfl, p, T.C_Clip, dx, _, rfl, s12 _ _ hp, T.cl_Clip, T.na_Clip__codes, by show 3 < 1000; decide, ?_⟩
      refine ⟨_, rfl, ?_⟩
      rw [show rowV row ++ rowV more = rowV (row ++ more) from List.map_append.symm] at hz
      exact q (by omega) _ H2 s12 (dp_row hz)
end
end My

/-! lists of clips that are equal -/
namespace My
open PySem PySem.Spec PyProof.Rows L2
def RCl {K : PySem.W.Frag} {mg : Str → Option Value} (T : Txt K mg) : Addr → Addr → Hp → Prop := fun a b H => ∃ (C : Cod) (row : List Nat) (s : Int × Int), ClS T H a C row s ∧ ClS T H b C row s
section
variable {P : Program} {w : World} {K : PySem.W.Frag} {mg : Str → Option Value} {base : Heap}
theorem ok_Clip_eqR (T : Txt K mg) : FnOk P w K mg base CX0 2 T.f_Clip_eq T.d_Clip_eq ["self", "other"] (spEq (RCl T)) := (ok_Clip_eq T).imp fun vs H Q E h => by
  obtain ⟨a, b, rfl, ⟨C, row, s, h1, h2⟩, q⟩ := h
  refine ⟨a, .ref b, C, row, s, rfl, h1, .inr ⟨b, C, row, s, rfl, h2, fun c hc => ?_⟩⟩
  obtain rfl : c = true := hc.mpr ⟨rfl, rfl, rfl⟩
  exact q H fun _ _ h => h
end
section
variable {X : Cx}
abbrev DCl {K : PySem.W.Frag} {mg : Str → Option Value} (T : Txt K mg) : Eqv := DList (DIns T.C_Clip (RCl T))
theorem mon_cl {K : PySem.W.Frag} {mg : Str → Option Value} (T : Txt K mg) : Mon (DIns T.C_Clip (RCl T)) := mon_ins fun a b H H' e ⟨C, row, s, h1, h2⟩ => ⟨C, row, s, h1.same e, h2.same e⟩
theorem op_eqLI (T : Txt X.K X.mg) (hu : X.A.units + 64 < cLine) (hr : Room 3 X.A) (hx : Passes CX0 X E0) : OpR X (compareOp .Eq) (fun x y H Q => rEqD X.K x y H Q ∨ rEqG (DCl T) x y H Q) :=
  fun pins s σ H x y v u Q I rx ry h => h.elim (op_eqD hu pins s σ H x y v u Q I rx ry)
    (op_eqG (rcG_list (mon_cl T) (eqG_ins (ok_Clip_eqR T) T.at_Clip_eq T.fn_Clip_eq T.b_Clip_eq hx)) hr pins s σ H x y v u Q I rx ry)
theorem op_neLI (T : Txt X.K X.mg) (hu : X.A.units + 64 < cLine) (hr : Room 3 X.A) (hx : Passes CX0 X E0) : OpR X (compareOp .NotEq) (fun x y H Q => rNeD X.K x y H Q ∨ rNeG (DCl T) x y H Q) :=
  fun pins s σ H x y v u Q I rx ry h => h.elim (op_neD hu pins s σ H x y v u Q I rx ry)
    (op_neGL (mon_cl T) (eqG_ins (ok_Clip_eqR T) T.at_Clip_eq T.fn_Clip_eq T.b_Clip_eq hx) hr pins s σ H x y v u Q I rx ry)
end
end My

/-! _law_outcome(lambda: ..) where several defs hold lambdas -/
namespace My
open PySem PySem.Spec PyProof.Rows L2 LamX
theorem pe_outcomeL {X : Cx} (T : Txt X.K X.mg) (S : List (Addr × Str)) {c P : Addr} {k : Nat} {body : Expr} {params : Arguments} {scope : Scope} {t : XK → TE} {p lpos pos : Pos} (TB : TabB X.base X.mg c P) (hcode : X.env.code = .ref c) (hm : (P, X.env.qual ++ "<lambda>") ∈ S)
    (ho : ∀ p ∈ S, ∀ q ∈ S, p.1 = q.1 → p.2 = q.2) (hg : Gl X "_law_outcome") (hr : Room (k + 3) X.A) (L : LamS X.env.scope scope)
    (hdef : defaultsOf params X.env = ([], [])) (hbind : ∀ (q : Str) (cl : List (Str × Addr)) (pm cv ctv : Value), bindArgs (PySem.W.kla_fn "<lambda>" q params body scope cl pm cv ctv) ⟨[], []⟩ = pure [])
    (hbody : ∀ (A : Around) (outer : List Env) (s : Shared) (H : Hp) (E : XK) (f c' : Addr), Room (k + 1) (A.deeper (lamEnv X scope s.heap.objs.size f c')) → PE (lamCx X A outer s H E scope f c') body (t E)) :
    PE X (.Call (.Name "_law_outcome" p) [.Lambda params body scope lpos] [] pos) (tLam S (TTO T) t) := by
  obtain ⟨oc, od, dV, kV, doc, pm, an, cdv, ct, osl, lk, hcd, hb⟩ := T.lk_oc
  exact pe_lamcall (k := k + 1) (Ng := ["deed", "caught", "found", "e"]) (a := "deed") hg T.g__law_outcome T.kp_oc lk hcd hb sc_law_outcome rfl (.inl rfl) (outcome_gives T (hr.mono (by omega))) TB hcode hm
    (fun p hp e => ho p hp _ hm e) hr L hdef hbind hbody
end My

/-! how long the texts of data are -/
namespace My
open PySem PySem.Spec PyProof.Rows L2
theorem textFrom_le {n : Nat} : ∀ (ts : List Str) (k : Nat) (acc : Str), (∀ t ∈ ts, t.length ≤ n) → (textFrom k acc ts).length ≤ acc.length + ts.length * (n + 2)
  | [], k, acc, _ => by show acc.length ≤ _; omega
  | t :: ts, k, acc, h => by
    have ht := h t List.mem_cons_self
    have hr := textFrom_le ts (k + 1) (acc ++ (if k > 0 then ", " else "" : String) ++ t) fun e he => h e (List.mem_cons_of_mem _ he)
    show (textFrom (k + 1) (acc ++ (if k > 0 then ", " else "" : String) ++ t) ts).length ≤ _
    have e : (((if k > 0 then ", " else "" : String) : Str)).length ≤ 2 := by split <;> decide
    rw [strLen_append, strLen_append] at hr
    rw [List.length_cons, Nat.succ_mul]
    omega
theorem shown_all {n : Nat} : ∀ {ds : List PyData}, (∀ d ∈ ds, d.shown.length ≤ n) → ∀ t ∈ PyData.shownAll ds, t.length ≤ n
  | [], _, _, ht => by cases ht
  | d :: r, h, t, ht => by
    rcases List.mem_cons.mp (show t ∈ d.shown :: PyData.shownAll r from ht) with e | e
    · rw [e]; exact h d List.mem_cons_self
    · exact shown_all (fun e he => h e (List.mem_cons_of_mem _ he)) t e
theorem sh_list {k n : Nat} {ds : List PyData} (h : ∀ d ∈ ds, Sh k n d) : Sh (k + 1) (ds.length * (n + 2) + 2) (.list ds) := by
  obtain ⟨h1, h2, h3, h4, h5⟩ := sh_all h
  refine ⟨h1, h2, Nat.succ_le_succ h3, ?_⟩
  show (listText (PyData.shownAll ds)).length ≤ _
  unfold listText
  rw [strLen_append]
  have e1 : ((("[" : String) : Str)).length = 1 := rfl
  have e2 : ((("]" : String) : Str)).length = 1 := rfl
  have := textFrom_le (n := n) (PyData.shownAll ds) 0 "[" (shown_all fun d hd => (h d hd).le)
  rw [h5] at this
  omega
theorem sh_cod {C : Cod} (O : C.Ok) : Sh 3 400000 C.dat := by
  have a : Sh 2 70000 (.tuple (C.steps.map .int)) := (sh_ints fun z hz => by
    have := O.s3 z hz
    omega).mono (by decide) (by have := O.s2; omega)
  have b : Sh 2 70000 (.tuple (C.moves.map pairI)) := by
    refine (sh_tup (k := 1) (n := 4000) (ds := C.moves.map pairI) fun d hd => ?_).mono (Nat.le_refl _) (by rw [List.length_map]; have := O.m2; omega)
    obtain ⟨p, hp, rfl⟩ := List.mem_map.mp hd
    have := O.m3 p hp
    exact sh_pair (by omega) (by omega)
  have l := O.l1
  have l2 := O.l2
  have h1 := O.h1
  have h2 := O.h2
  have i : ∀ z : Int, z.natAbs < 2 ^ 64 → Sh 2 70000 (.int z) := fun z hz => (sh_int hz).mono (by decide) (by decide)
  refine (sh_tup (k := 2) (n := 70000) (ds := [.int C.low, .int C.high, .tuple (C.steps.map .int), .tuple (C.moves.map pairI), .int C.fade]) fun d hd => ?_).mono (Nat.le_refl _) (by simp)
  rcases List.mem_cons.mp hd with e | hd
  · rw [e]; exact i _ (by omega)
  rcases List.mem_cons.mp hd with e | hd
  · rw [e]; exact i _ (by omega)
  rcases List.mem_cons.mp hd with e | hd
  · rw [e]; exact a
  rcases List.mem_cons.mp hd with e | hd
  · rw [e]; exact b
  · rw [List.mem_singleton.mp hd]; exact i _ (by have := O.f1; omega)
theorem sh_non : Sh 0 2000 .none := ⟨rfl, rfl, Nat.le_refl _, by decide +kernel⟩
theorem sh_bl : Sh 0 2000 (.bool true) := ⟨rfl, rfl, Nat.le_refl _, by decide +kernel⟩
theorem sh_bf : Sh 0 2000 (.bool false) := ⟨rfl, rfl, Nat.le_refl _, by decide +kernel⟩
theorem sh_i {i : Int} (h : i.natAbs < 2 ^ 64) : Sh 0 2000 (.int i) := (sh_int h).mono (Nat.le_refl _) (by decide)
theorem all0 {p : PyData → Prop} : ∀ d ∈ ([] : List PyData), p d := fun _ h => by cases h
theorem all1 {p : PyData → Prop} {a : PyData} {r : List PyData} (h : p a) (hr : ∀ d ∈ r, p d) : ∀ d ∈ a :: r, p d := fun d hd => by
  rcases List.mem_cons.mp hd with e | e
  · rw [e]; exact h
  · exact hr d e
/-- of at most three small things -/
theorem sh_t {k n : Nat} {ds : List PyData} (hl : ds.length ≤ 3) (h : ∀ d ∈ ds, Sh k n d) : Sh (k + 1) (3 * (n + 2) + 3) (.tuple ds) :=
  (sh_tup h).mono (Nat.le_refl _) (Nat.add_le_add_right (Nat.mul_le_mul_right _ hl) _)
theorem sh_l {k n : Nat} {ds : List PyData} (hl : ds.length ≤ 3) (h : ∀ d ∈ ds, Sh k n d) : Sh (k + 1) (3 * (n + 2) + 3) (.list ds) :=
  (sh_list h).mono (Nat.le_refl _) (Nat.add_le_add (Nat.mul_le_mul_right _ hl) (by decide))
end My

set_option pp.maxSteps 600
namespace My
open PySem PySem.Spec PyProof.Rows L2 LamX
section
variable {P : Program} {w : World} {K : PySem.W.Frag} {mg : Str → Option Value} {base : Heap}
theorem sz_line2 {n : Nat} (h : n ≤ 16000000) : n ≤ sizeLine := Nat.le_trans h (by decide)
theorem sh_lev {C : Cod} (O : C.Ok) {row : List Nat} {st : Int × Int} (h : row.length ≤ 100) : Sh 3 400000 (.tuple ((C.lev st row).map .int)) := by
  have h1 := O.l1
  have h2 := O.h2
  exact (sh_ints fun z hz => by
    have := lev_in O row st z hz
    omega).mono (by decide) (by rw [lev_len]; omega)
theorem sh_rowC {C : Cod} (O : C.Ok) {row : List Nat} (R : C.Row row) (h : row.length ≤ 100) : Sh 3 400000 (rowI row) := by
  have h3 := O.m2
  have := sh_ints (ns := row.map fun k : Nat => (k : Int)) fun z hz => by
    obtain ⟨k, hk, rfl⟩ := List.mem_map.mp hz
    have := R.lt k hk
    show Int.natAbs (k : Int) < 2 ^ 64
    omega
  rw [List.map_map, List.length_map] at this
  exact this.mono (by decide) (by omega)
theorem sh_st {C : Cod} (O : C.Ok) {s : Int × Int} (h : C.St s) : Sh 3 400000 (pairI s) := by
  obtain ⟨a, b, c, d⟩ := h
  have h1 := O.l1
  have h2 := O.h2
  have h3 := O.s2
  exact (sh_pair (by omega) (by omega)).mono (by decide) (by decide)
theorem yes_any2 {σ : L2.St} {H : Hp} {A B : Hp → Prop} (h : A H) : tYes σ H fun b H3 => if b = true then A H3 else B H3 := by
  show if true = true then A H else B H
  rw [if_pos rfl]
  exact h
theorem lv_atC {H : Hp} {C : Cod} {st : Int × Int} {row : List Nat} {xs : List V} {j : Nat} {v : V} (h : DpAll K H xs ((C.path st row).map pairI)) (e : (xs.drop 1)[j]? = some v) :
    ∃ (a : Addr) (z : Int × Int), v = .ref a ∧ SqT K H a [.int z.1, .int z.2] ∧ (C.lev st row)[j]? = some z.1 := by
  rw [List.getElem?_drop] at e
  obtain ⟨d, hd, hv⟩ := dpAll_get h e
  rw [List.getElem?_map] at hd
  obtain ⟨z, hz, rfl⟩ := Option.map_eq_some_iff.mp hd
  obtain ⟨a, rfl, ha⟩ := dp_pair hv
  refine ⟨a, z, rfl, ha, ?_⟩
  rw [← path_tail, List.getElem?_map, List.getElem?_drop, hz]
  rfl
/-- what _law_shown tells -/
def toldD (C : Cod) (row : List Nat) (st : Int × Int) : PyData := .list [C.dat, rowI row, pairI st, .int (row.length : Nat), .tuple ((C.lev st row).map .int), pairI (C.run st row)]
theorem sh_told {C : Cod} (O : C.Ok) {row : List Nat} {st : Int × Int} (R : C.Row row) (hs : C.St st) (h : row.length ≤ 100) : Sh 4 2400020 (toldD C row st) := by
  refine (sh_list (k := 3) (n := 400000) (ds := [C.dat, rowI row, pairI st, .int (row.length : Nat), .tuple ((C.lev st row).map .int), pairI (C.run st row)]) ?_).mono (Nat.le_refl _) (by simp)
  exact all1 (sh_cod O) (all1 (sh_rowC O R h) (all1 (sh_st O hs) (all1 ((sh_int (by omega)).mono (by decide) (by decide)) (all1 (sh_lev O h) (all1 (sh_st O (run_St O row hs)) all0)))))
def sp_law_shown (T : Txt K mg) : Sp := fun vs H Q _ => ∃ (p : Addr) (cv rv hv : V) (C : Cod) (row : List Nat) (st : Int × Int), vs = [.ref p, cv, rv, hv] ∧ ClS T H p C row st ∧ Dp K H cv C.dat ∧ Dp K H rv (rowI row) ∧ Dp K H hv (pairI st) ∧ row.length ≤ 100 ∧ ∀ H', Same H H' → Q (.bl true) H'
set_option maxHeartbeats 2000000 in
theorem ok_law_shown (T : Txt K mg) : FnG P w K mg base 8 T.f__law_shown T.d__law_shown ["clip", "coder", "row", "here"] (sp_law_shown T) := by
  refine okG T.F__law_shown sc_law_shown (fun vs H Q E h => ?_) (fun cdv A outer s H vs Q E hgd hr h => ?_)
  · obtain ⟨p, cv, rv, hv, C, row, st, rfl, _⟩ := h
    rfl
  · obtain ⟨p, cv, rv, hv, C, row, st, rfl, hS, hcv, hrv, hhv, hl, q⟩ := h
    refine ⟨_,
(pss_cons (ps_set (i := 4) sc_law_shown.nd rfl (Or.inl rfl) (pe_call (ok_law_walked T) (hr.mono (by decide)) (by rfl) T.g__law_walked T.F__law_walked.kp T.b__law_walked .nil pass0 (pa_cons (pv 1) (pa_cons (pv 3) (pa_cons (pv 2) pa_nil)))))
      (pss_cons (ps_set (i := 5) sc_law_shown.nd rfl (Or.inl rfl) (pe_lst (pa_cons (pe_prop (pv 0) T.cl_Clip T.po_Clip_coder (ok_Clip_coder T) (hr.mono (by decide)) T.b_Clip_coder .nil pass0 rfl) (pa_cons (pe_prop (pv 0) T.cl_Clip T.po_Clip_codes (ok_Clip_codes T) (hr.mono (by decide)) T.b_Clip_codes .nil pass0 rfl) (pa_cons (pe_prop (pv 0) T.cl_Clip T.po_Clip_state (ok_Clip_state T) (hr.mono (by decide)) T.b_Clip_state .nil pass0 rfl) (pa_cons (pe_callB (My.call_lenI T.at_Clip_len T.fn_Clip_len ((ok_Clip_len T).raw T.b_Clip_len .nil) (hr.mono (by decide)) pass0) (by rfl) T.z_len (by decide +kernel) (pa_cons (pv 0) pa_nil)) (pa_cons (pe_meth0 (pv 0) T.cl_Clip T.me_Clip_heard (ok_Clip_heard T) (hr.mono (by decide)) T.b_Clip_heard .nil pass0) (pa_cons (pe_meth0 (pv 0) T.cl_Clip T.me_Clip_last (ok_Clip_last T) (hr.mono (by decide)) T.b_Clip_last .nil pass0) pa_nil))))))))
      (pss_one (ps_ret (pe_cmpR op_eq (pe_callB ((call_repr hgd hr.units)) (by rfl) T.z_repr (by decide +kernel) (pa_cons (pv 5) pa_nil)) (pe_callB ((call_repr hgd hr.units)) (by rfl) T.z_repr (by decide +kernel) (pa_cons (pe_lst (pa_cons (pv 1) (pa_cons (pv 2) (pa_cons (pv 3) (pa_cons (pe_callB (call_len_seq) (by rfl) T.z_len (by decide +kernel) (pa_cons (pv 2) pa_nil)) (pa_cons (pe_callTy call_tuple_of (by rfl) T.z_tuple (by decide +kernel) (pa_cons (pe_lc (own := [("spot", 6)]) rfl sc_law_shown.nd (pi_list (pe_slice sl_list (pv 4) (po_some pe_int) po_none)) (blkOk_by (own := [("spot", 6)]) (N := ["clip", "coder", "row", "here", "path", "told", "spot"]) (sc := defScope s_law_shown) (by decide +kernel)) (fun _ _ _ _ _ => (pg_name (i := 6) sc_law_shown.nd rfl (Or.inl rfl))) (fun _ _ _ _ _ => pts_nil) (fun _ _ _ _ _ => (pe_ix (My.ix_tupK (K := K)) (pv 6) pe_int (fun _ _ => rfl)))) pa_nil)) (pa_cons (pe_ix ix_list (pv 4) (pe_un un_neg pe_int) (fun _ _ => rfl)) pa_nil))))))) pa_nil)) (nomark _))))))
, ?_⟩
    have O := hS.O
    refine ⟨_, rfl, _, rfl, _, rfl, cv, hv, rv, C, row, st, rfl, O, hcv, hrv, hS.R, hhv, hS.St, fun pp xs H1 s1 _ hpp hpd => ?_⟩
    obtain ⟨dx, c, r, x, hp, hc, hrow, hx⟩ := (hS.same s1).ex
    have hxl : xs.length = row.length + 1 := by rw [dpAll_len hpd, List.length_map, path_len]
    -- told
    refine ⟨_, rfl, p, dx, _, rfl, hp, p, dx, c, r, x, rfl, hp, ?_⟩
    refine ⟨_, rfl, p, dx, _, rfl, hp, p, dx, c, r, x, rfl, hp, ?_⟩
    refine ⟨_, rfl, p, dx, _, rfl, hp, p, dx, c, r, x, rfl, hp, ?_⟩
    refine ⟨_, rfl, p, dx, _, rfl, hp, p, C, row, st, rfl, hS.same s1, _, rfl, by omega, by omega, ?_⟩
    refine ⟨_, rfl, p, dx, _, rfl, hp, rfl, p, C, row, st, rfl, hS.same s1, fun t H2 s2 ht => ?_⟩
    refine ⟨_, rfl, p, dx, _, rfl, s2 _ _ hp, rfl, p, C, row, st, rfl, hS.same (s1.trans s2), fun z H3 s3 hz => ?_⟩
    refine ⟨by show 6 ≤ sizeLine; decide, fun L hL => ?_⟩
    have s4 := same_new (o := .lst [c, r, x, V.int (row.length : Nat), V.ref t, z]) hL
    have s14 := (s2.trans s3).trans s4
    have hD : Dp K (upd H3 L (.lst [c, r, x, V.int (row.length : Nat), V.ref t, z])) (.ref L) (toldD C row st) :=
      .lst (SqL.of upd_same) (.cons (dp_same s14 _ _ hc) (.cons (dp_same s14 _ _ hrow) (.cons (dp_same s14 _ _ hx) (.cons (.int _) (.cons (.tup (same_tup (s3.trans s4) ht) (dp_ints _)) (.cons (dp_same s4 _ _ hz) .nil))))))
    generalize upd H3 L (.lst [c, r, x, V.int (row.length : Nat), V.ref t, z]) = H4 at s4 s14 hD
    have sht := sh_told (C := C) (row := row) (st := st) O hS.R hS.St hl
    obtain ⟨ra, rfl, hra⟩ := row_at hrv
    have hra4 := same_tup (s1.trans s14) hra
    have hpp4 := s14 _ _ hpp
    have hpd4 := dpAll_same s14 _ _ hpd
    refine ⟨_, rfl, _, _, rfl, hD, sht.sh, sht.nd, Nat.le_trans sht.dp (by decide), sz_line2 (Nat.le_trans sht.le (by decide)), _, rfl, _, rfl, _, rfl, _, rfl, ra, _, rfl, .inr hra4, ?_⟩
    refine ⟨_, rfl, 1, rfl, ?_⟩
    refine ⟨pp, xs, rfl, SqL.of hpp4, fun L2 hL2 => ?_⟩
    have s8 := same_new (o := .lst (cutV xs (some 1) none)) hL2
    have hL8 : (upd H4 L2 (.lst (cutV xs (some 1) none))) L2 = some (.lst (xs.drop 1)) := by
      rw [upd_same, show cutV xs (some 1) none = xs.drop 1 from cut_drop (n := 1) (by omega)]
    generalize upd H4 L2 (.lst (cutV xs (some 1) none)) = H6 at s8 hL8
    have hpd6 := dpAll_same s8 _ _ hpd4
    have hdl : (xs.drop 1).length = row.length := by rw [List.length_drop]; omega
    have hll := lev_len (C := C) row st
    refine ⟨L2, rfl, ⟨_, SqL.of hL8⟩, fun NW hNW => ?_⟩
    refine lc_list (K := K) (a := L2) (xs := xs.drop 1) (fun j H' => H' NW = some (.lst (((C.lev st row).take j).map V.int)) ∧ Same H6 H') ⟨upd_same, same_new hNW⟩ ?_ ?_ ?_
    · rintro j H' _ ⟨_, sy⟩
      exact sy.seq (SqL.of hL8)
    · rintro j v H' hj ⟨hD, sy⟩
      obtain ⟨qa, z, rfl, hq, hz⟩ := lv_atC (dpAll_same sy _ _ hpd6) hj
      refine ⟨rfl, yes_any2 ?_⟩
      refine ⟨_, rfl, qa, _, 0, _, rfl, rfl, hq, atI_nat (j := 0) rfl, _, hD, ?_, ?_, same_put sy hNW⟩
      · exact Nat.lt_of_le_of_lt (show _ ≤ 4096 by rw [List.length_map, List.length_take]; omega) (by decide)
      · rw [upd_same, List.take_add_one, hz, List.map_append]
        rfl
    rintro H7 ⟨hNW7, s67⟩
    rw [hdl, List.take_of_length_le (by omega)] at hNW7
    refine ⟨NW, _, rfl, .inl ⟨SqL.of hNW7, fun tt htt => ?_⟩⟩
    have s48 := (s8.trans s67).trans (same_new (o := .tup ((C.lev st row).map V.int)) htt)
    obtain ⟨pl, epl⟩ := path_last (C := C) row st
    rw [epl] at hpd4
    obtain ⟨ys, lv, rfl, hlv⟩ := dp_last hpd4
    refine ⟨_, rfl, 1, rfl, pp, _, -1, lv, rfl, rfl, SqL.of (s48 _ _ hpp4), atI_last _ _, ?_⟩
    refine ⟨by show 6 ≤ sizeLine; decide, fun L3 hL3 => ?_⟩
    have s9 := same_new (o := .lst [cv, V.ref ra, hv, V.int ((rowV row).length : Nat), V.ref tt, lv]) hL3
    have s0 := (s1.trans s14).trans (s48.trans s9)
    have hD2 : Dp K (upd (upd H7 tt (.tup ((C.lev st row).map V.int))) L3 (.lst [cv, V.ref ra, hv, V.int ((rowV row).length : Nat), V.ref tt, lv])) (.ref L3) (toldD C row st) :=
      .lst (SqL.of upd_same) (.cons (dp_same s0 _ _ hcv) (.cons (dp_same s0 _ _ hrv) (.cons (dp_same s0 _ _ hhv) (.cons (by rw [show (rowV row).length = row.length from List.length_map ..]; exact .int _) (.cons (.tup (same_tup s9 upd_tup) (dp_ints _)) (.cons (dp_same (s48.trans s9) _ _ hlv) .nil))))))
    refine ⟨_, _, rfl, hD2, sht.sh, sht.nd, Nat.le_trans sht.dp (by decide), sz_line2 (Nat.le_trans sht.le (by decide)), ?_⟩
    exact eq_same (q _ s0)
end
end My

set_option pp.maxSteps 600
/-! _law_appended: clip += row, what is raised told -/
namespace My
open PySem PySem.Spec PyProof.Rows L2 LamX
section
variable {P : Program} {w : World} {K : PySem.W.Frag} {mg : Str → Option Value} {base : Heap}
theorem sp_iaddR_mono {T : Txt K mg} {vs : List V} {H : Hp} {Q Q' : VK} {E : XK} (q : ∀ z H', Q z H' → Q' z H') (h : sp_Clip_iaddR T vs H Q E) : sp_Clip_iaddR T vs H Q' E := by
  obtain ⟨p, dx, c, r, x, y, C, row, e, h1, h2, h3, h4, h⟩ := h
  refine ⟨p, dx, c, r, x, y, C, row, e, h1, h2, h3, h4, ?_⟩
  rcases h with h | h | ⟨more, a, b, c', d⟩
  · exact .inl h
  · exact .inr (.inl h)
  · exact .inr (.inr ⟨more, a, b, c', fun e r' H1 s1 hr => q _ _ (d e r' H1 s1 hr)⟩)
def sp_law_appended (T : Txt K mg) : Sp := fun vs H Q _ => ∃ (p : Addr) (y : V) (dx : Addr) (fs : List (Str × V)), vs = [.ref p, y] ∧ H p = some (.ins T.C_Clip dx fs) ∧
  sp_Clip_iaddR T [.ref p, y] H (fun z H' => ∀ L, H' L = none → Q (.ref L) (upd H' L (.lst [z]))) (EO T Q)
theorem ok_law_appended (T : Txt K mg) : FnOk P w K mg base CX0 12 T.f__law_appended T.d__law_appended ["clip", "row"] (sp_law_appended T) := by
  refine T.F__law_appended.ok sc_law_appended (fun vs H Q E h => ?_) (fun cdv A outer s H vs Q E hr h => ?_)
  · obtain ⟨p, y, dx, fs, rfl, _⟩ := h
    rfl
  · obtain ⟨p, y, dx, fs, rfl, hp, h⟩ := h
    refine ⟨_, pss_cons (ps_set (i := 2) sc_law_appended.nd rfl (Or.inl rfl) pe_non)
      (pss_cons (ps_try_keep (i := 3) (j := 2) (cs := [.ref T.C_BadCoder, .ref T.C_BadRow, .ref T.C_BadPaper, .ref T.C_BadByte, .ref T.C_TooGreat, .ref T.C_OutOfPlace, .ref T.C_NoSeam, .ref T.C_Nothing])
        (tb := fun W D σ H => ∃ Ech : XK, (∀ cls d σ' H', Ech cls d H' → W cls d σ' H') ∧ tAug 0 (tVar 1) (tIpI T.C_Clip (fun vs H Q E => sp_Clip_iaddR T (vs ++ []) H Q E) Ech) D σ H)
        rfl rfl rfl sc_law_appended.nd rfl rfl rfl rfl (by decide) (by decide) (by decide)
        ⟨⟨by rfl, by decide, .inl T.g_BadCoder⟩, ⟨by rfl, by decide, .inl T.g_BadRow⟩, ⟨by rfl, by decide, .inl T.g_BadPaper⟩, ⟨by rfl, by decide, .inl T.g_BadByte⟩, ⟨by rfl, by decide, .inl T.g_TooGreat⟩, ⟨by rfl, by decide, .inl T.g_OutOfPlace⟩, ⟨by rfl, by decide, .inl T.g_NoSeam⟩, ⟨by rfl, by decide, .inl T.g_Nothing⟩, True.intro⟩
        (by show 8 ≤ sizeLine; decide) L2.takes0 (fun W pn xe tk _ => ?hb))
      (pss_one (ps_ret (pe_ifExp (pt_cmpR op_isN (pv 2) pe_non (nomark _)) (pe_lst (pa_cons (pv 0) pa_nil)) (pe_call (ok_law_fault T) (hr.mono (by decide)) (by rfl) T.g__law_fault T.F__law_fault.kp T.b__law_fault .nil pass0 (pa_cons (pv 2) pa_nil)))))), ?go⟩
    case hb =>
      refine ⟨fun pins s' σ H' D I h' => ?_⟩
      obtain ⟨Ech, hW, h3⟩ := h'
      exact (pss_one (ps_aug (i := 0) sc_law_appended.nd rfl (Or.inl rfl) (pv 1) (My.ip_ownI T.sf_Clip T.at_Clip_iadd T.fn_Clip_iadd ((ok_Clip_iaddR T).raw T.b_Clip_iadd .nil) (hr.mono (by decide)) (fun _ σ _ _ e s' I c => tk e s' (XE.of_call I (fun cls d H' h => hW cls d σ H' h) c))))).run pins s' σ H' D I h3
    case go =>
      refine ⟨EO T Q, fun cls d σ' H' hE => ?_, _, rfl, _, rfl, p, dx, fs, rfl, hp, ?_⟩
      · obtain ⟨fl, hf, kq⟩ := hE
        obtain ⟨D0, bs, rfl, hem, hany⟩ := isFl_em hf
        refine ⟨bs, hem, fun _ hlen a ha => ?_, fun e => by rw [hany] at e; cases e⟩
        match σ', hlen with
        | [x0, x1, x2, x3], _ =>
          have s2 : Same H' (upd H' a (exT a (.ref D0) d)) := same_new ha
          refine ⟨.ref a, rfl, rfl, _, rfl, iteF ?_⟩
          exact ⟨.ref a, rfl, a, D0, d, fl, rfl, upd_same, isFl_same s2 hf, fun z H'' s3 hz => kq z H'' (s2.trans s3) hz⟩
      · refine sp_iaddR_mono (fun z H' hz => ?_) h
        refine ⟨.non, rfl, rfl, _, rfl, iteT ?_⟩
        exact ⟨z, rfl, by show 1 ≤ sizeLine; decide, hz⟩
end
end My

/-! xs == [] of a list of anything: by the lengths -/
namespace My
open PySem PySem.Spec PyProof.Rows L2
def rEqNil (K : PySem.W.Frag) : R2 := fun x y H Q => ∃ (a b : Addr) (xs : List V), x = .ref a ∧ y = .ref b ∧ SqL K H a xs ∧ SqL K H b [] ∧ Q (.bl xs.isEmpty) H
theorem op_eqNil {X : Cx} (hu : X.A.units + 64 < cLine) : OpR X (compareOp .Eq) (rEqNil X.K) := by
  intro pins s σ H x y v u Q I rx ry h
  obtain ⟨a, b, xs, rfl, rfl, ha, hb, q⟩ := h
  cases rx
  cases ry
  obtain ⟨its, r, pl, hz⟩ := I.list ha
  obtain ⟨its2, r2, pl2, hz2⟩ := I.list hb
  have e2 : its2 = [] := by
    have := r2.length
    cases its2 with
    | nil => rfl
    | cons => cases this
  subst e2
  have hu' : X.A.units < cLine := by omega
  cases xs with
  | nil =>
    have e1 : its = [] := by
      have := r.length
      cases its with
      | nil => rfl
      | cons => cases this
    subst e1
    exact SeqAt.RcAt.lists (e := fun _ => true) pl.isList pl2.isList rfl hu' (fun j h1 _ => by exact absurd h1 (by simp)) X.prog X.w _ _ ⟨.bl _, H, I, rfl, q⟩
  | cons x xs =>
    refine SeqAt.RcAt.lists_lengths pl.isList pl2.isList ?_ hu' X.prog X.w _ _ ⟨.bl _, H, I, rfl, q⟩
    have := r.length
    cases its with
    | nil => cases this
    | cons => rfl
end My

set_option pp.maxSteps 700
/-! what a law keeps of a clip; samples in a clip -/
namespace My
open PySem PySem.Spec PyProof.Rows L2 LamX
theorem op_in_seqK {X : Cx} {K : PySem.W.Frag} (h : X.K = K := by rfl) : OpR X (compareOp .In) (rIn K false) := by
  subst h
  exact op_in_seq
theorem op_notIn_seqK {X : Cx} {K : PySem.W.Frag} (h : X.K = K := by rfl) : OpR X (compareOp .NotIn) (rIn K true) := by
  subst h
  exact op_notIn_seq
theorem neB {a b : Bool} {A B : Prop} (e : a = b) (q : B) : if (!decide (V.bl a = V.bl b)) = true then A else B := by
  subst e
  rw [decide_eq_true rfl]
  exact iteF q
theorem ty_same {K : PySem.W.Frag} {H H' : Hp} {x : V} {t : Value} (s : Same H H') (h : TyX K H x t) : TyX K H' x t := by
  cases h with
  | base h =>
    cases h with
    | non => exact .base .non
    | bl b => exact .base (.bl b)
    | int i => exact .base (.int i)
    | str x => exact .base (.str x)
    | flt x => exact .base (.flt x)
    | lst e => exact .base (.lst (s _ _ e))
    | frz e => exact .base (.frz (s _ _ e))
    | tup e => exact .base (.tup (s _ _ e))
    | dK e => exact .base (.dK (s _ _ e))
    | dT e => exact .base (.dT (s _ _ e))
    | ins e a b c d f => exact .base (.ins (s _ _ e) a b c d f)
  | byt b => exact .byt b
  | set e => exact .set (s _ _ e)
  | kList e c => exact .kList e c
  | kTuple e c => exact .kTuple e c
  | kDict e c => exact .kDict e c
  | fTuple e => exact .fTuple (s _ _ e)
  | fDict e => exact .fDict (s _ _ e)
theorem An.same {K : PySem.W.Frag} {H H' : Hp} {x : V} {o : Option PyData} (s : Same H H') (h : An K H x o) : An K H' x o := by
  cases o with
  | some d => exact dp_same s _ _ h
  | none => exact ⟨h.choose, ty_same s h.choose_spec.1, h.choose_spec.2⟩
theorem dp_intsT {K : PySem.W.Frag} {H : Hp} {t : Addr} {L : List Int} (h : SqT K H t (L.map V.int)) : Dp K H (.ref t) (.tuple (L.map .int)) := .tup h (dp_ints L)
theorem st_lit {t : L2.TS} {D : Ends} {σ : L2.St} {H : Hp} (σ' : L2.St) (e : σ = σ') (h : t D σ' H) : t D σ H := e ▸ h
theorem ins_draw {m c l l' n p C dx : Addr} {fs : List (Str × V)} {H H' : Hp} (k : Kp m l H l' H') (d : Dr H m c l n) (h : H p = some (.ins C dx fs)) : H' p = some (.ins C dx fs) := by
  obtain ⟨cs, ls, z, h1, h2, h3, r⟩ := d.ex
  exact k.st p _ h (fun e => by rw [e, h1] at h; cases h) (fun e => by rw [e, h3] at h; cases h)
theorem tabs_insC {T : List (Addr × Str)} {H : Hp} {p C dx : Addr} {fs : List (Str × V)} {o : HO} (t : Tabs T H) (hp : H p = some (.ins C dx fs)) : Tabs T (upd H p o) := by
  intro q hq
  obtain ⟨ps, h1, h2, h3⟩ := t q hq
  refine ⟨ps, (upd_ne fun e => by rw [e, hp] at h1; cases h1).trans h1, h2, fun pos cv hc => ?_⟩
  obtain ⟨c, e1, e2⟩ := h3 pos cv hc
  exact ⟨c, e1, (upd_ne fun e => by rw [e, hp] at e2; unfold CodeO at e2; cases e2).trans e2⟩
theorem pick_int {xs : List Int} {r : Int} (h0 : 0 ≤ r) (h1 : r < (xs.length : Int)) : ∃ z, z ∈ xs ∧ atI (xs.map V.int) r = some (.int z) := by
  obtain ⟨n, rfl⟩ := Int.eq_ofNat_of_zero_le h0
  have hn : n < xs.length := by omega
  exact ⟨xs[n], List.getElem_mem hn, atI_nat (by rw [List.getElem?_map, List.getElem?_eq_getElem hn]; rfl)⟩
section
variable {P : Program} {w : World} {K : PySem.W.Frag} {mg : Str → Option Value} {base : Heap}
theorem ClS.draw {T : Txt K mg} {H H' : Hp} {m c l l' p : Addr} {n : Nat} {C : Cod} {row : List Nat} {st : Int × Int} (h : ClS T H p C row st) (k : Kp m l H l' H') (D : Dr H m c l n) : ClS T H' p C row st := by
  obtain ⟨dx, c, r, x, h1, h2, h3, h4⟩ := h.ex
  have kk := keep_draw k D
  exact ⟨⟨dx, c, r, x, ins_draw k D h1, dp_keep kk _ _ (noL_cod _) h2, dp_keep kk _ _ (noL_row _) h3, dp_keep kk _ _ (noL_pair _) h4⟩, h.O, h.R, h.St⟩
theorem ClS.ext {T : Txt K mg} {H H' : Hp} {p : Addr} {C : Cod} {row : List Nat} {st : Int × Int} (h : ClS T H p C row st) (e : ExtN H H') : ClS T H' p C row st := by
  obtain ⟨dx, c, r, x, h1, h2, h3, h4⟩ := h.ex
  exact ⟨⟨dx, c, r, x, e _ _ h1 nofun, dp_ext e _ _ h2, dp_ext e _ _ h3, dp_ext e _ _ h4⟩, h.O, h.R, h.St⟩
theorem ClS.ins {T : Txt K mg} {H : Hp} {p z Cz dz : Addr} {fs : List (Str × V)} {o : HO} {C : Cod} {row : List Nat} {s : Int × Int} (h : ClS T H p C row s) (hz : H z = some (.ins Cz dz fs)) (ne : p ≠ z) : ClS T (upd H z o) p C row s := by
  obtain ⟨dx, c, r, x, h1, h2, h3, h4⟩ := h.ex
  have k := exI_ins (o := o) hz
  exact ⟨⟨dx, c, r, x, (upd_ne ne).trans h1, dp_exI k _ _ h2, dp_exI k _ _ h3, dp_exI k _ _ h4⟩, h.O, h.R, h.St⟩
theorem ClS.new {T : Txt K mg} {H : Hp} {p z : Addr} {C : Cod} {row : List Nat} {s : Int × Int} (h : ClS T H p C row s) (hz : H z = none) : p ≠ z := fun e => by
  obtain ⟨dx, _, _, _, h1, _⟩ := h.ex
  rw [e, hz] at h1
  cases h1
/-- what a law keeps: the drawer, a clip, its coder, its row, its state, the tables -/
structure Bg (T : Txt K mg) (H : Hp) (m c l : Addr) (n : Nat) (p : Addr) (C : Cod) (row : List Nat) (st : Int × Int) (cv rv hv : V) : Prop where
  D : Dr H m c l n
  cl : ClS T H p C row st
  cv : Dp K H cv C.dat
  rv : Dp K H rv (rowI row)
  hv : Dp K H hv (pairI st)
  T : Tabs (TL T) H
theorem Bg.same {T : Txt K mg} {H H' : Hp} {m c l p : Addr} {n : Nat} {C : Cod} {row : List Nat} {st : Int × Int} {cv rv hv : V} (h : Bg T H m c l n p C row st cv rv hv) (s : Same H H') : Bg T H' m c l n p C row st cv rv hv :=
  ⟨h.D.same s, h.cl.same s, dp_same s _ _ h.cv, dp_same s _ _ h.rv, dp_same s _ _ h.hv, tabs_same h.T s⟩
theorem Bg.less {T : Txt K mg} {H : Hp} {m c l p : Addr} {n k : Nat} {C : Cod} {row : List Nat} {st : Int × Int} {cv rv hv : V} (h : Bg T H m c l n p C row st cv rv hv) (e : k ≤ n) : Bg T H m c l k p C row st cv rv hv :=
  ⟨h.D.less e, h.cl, h.cv, h.rv, h.hv, h.T⟩
theorem Bg.draw {T : Txt K mg} {H H' : Hp} {m c l l' p : Addr} {n n' : Nat} {C : Cod} {row : List Nat} {st : Int × Int} {cv rv hv : V} (h : Bg T H m c l n p C row st cv rv hv) (k : Kp m l H l' H') (D : Dr H' m c l' n') : Bg T H' m c l' n' p C row st cv rv hv :=
  have kk := keep_draw k h.D
  ⟨D, h.cl.draw k h.D, dp_keep kk _ _ (noL_cod _) h.cv, dp_keep kk _ _ (noL_row _) h.rv, dp_keep kk _ _ (noL_pair _) h.hv, tabs_kp h.T k h.D⟩
theorem Bg.ext {T : Txt K mg} {H H' : Hp} {m c l p : Addr} {n : Nat} {C : Cod} {row : List Nat} {st : Int × Int} {cv rv hv : V} (h : Bg T H m c l n p C row st cv rv hv) (e : ExtN H H') (t : Tabs (TL T) H') : Bg T H' m c l n p C row st cv rv hv :=
  ⟨dr_ext h.D e, h.cl.ext e, dp_ext e _ _ h.cv, dp_ext e _ _ h.rv, dp_ext e _ _ h.hv, t⟩
theorem Bg.ins {T : Txt K mg} {H : Hp} {m c l p : Addr} {n : Nat} {C : Cod} {row : List Nat} {st : Int × Int} {cv rv hv : V} (h : Bg T H m c l n p C row st cv rv hv) {z Cz dz : Addr} {fs : List (Str × V)} {o : HO} (hz : H z = some (.ins Cz dz fs)) (n1 : p ≠ z) : Bg T (upd H z o) m c l n p C row st cv rv hv :=
  have e := exI_ins (o := o) hz
  ⟨dr_exI h.D e, h.cl.ins hz n1, dp_exI e _ _ h.cv, dp_exI e _ _ h.rv, dp_exI e _ _ h.hv, tabs_insC h.T hz⟩
def sp_law_sample_right (T : Txt K mg) : Sp := fun vs H Q _ => ∃ (m c l p : Addr) (k : Nat) (cv rv hv : V) (C : Cod) (row : List Nat) (s : Int × Int), vs = [.ref m, .ref p, cv] ∧ Bg T H m c l (k + 1) p C row s cv rv hv ∧
  ∀ l' H', Bg T H' m c l' k p C row s cv rv hv → Q (.bl true) H'
theorem ok_law_sample_right (T : Txt K mg) : FnOk P w K mg base CX0 12 T.f__law_sample_right T.d__law_sample_right ["m", "clip", "coder"] (sp_law_sample_right T) := by
  refine T.F__law_sample_right.ok sc_law_sample_right (fun vs H Q E h => ?_) (fun cdv A outer s H vs Q E hr h => ?_)
  · obtain ⟨m, c, l, p, k, cv, rv, hv, C, row, s, rfl, _⟩ := h
    rfl
  · obtain ⟨m, c, l, p, k, cv, rv, hv, C, row, st, rfl, B, q⟩ := h
    refine ⟨_,
(pss_cons (ps_set (i := 3) sc_law_sample_right.nd rfl (Or.inr rfl) (pe_meth0 (pv 1) T.cl_Clip T.me_Clip_heard (ok_Clip_heard T) (hr.mono (by decide)) T.b_Clip_heard .nil pass0))
      (pss_cons (ps_set (i := 4) sc_law_sample_right.nd rfl (Or.inl rfl) (pe_op op_cat (pe_callTy call_list_of (by rfl) T.z_list (by decide +kernel) (pa_cons (pe_slice sl_tupA (pv 3) po_none (po_some pe_int)) pa_nil)) (pe_lst (pa_cons (pe_op op_add (pe_ix ix_tup (pv 2) pe_int (fun _ _ => rfl)) (pe_call (ok_law_next T) (hr.mono (by decide)) (by rfl) T.g__law_next T.F__law_next.kp T.b__law_next .nil pass0 (pa_cons (pv 0) (pa_cons (pe_op op_add (pe_op op_sub (pe_ix ix_tup (pv 2) pe_int (fun _ _ => rfl)) (pe_ix ix_tup (pv 2) pe_int (fun _ _ => rfl))) pe_int) pa_nil)))) (pa_cons (pe_ix ix_tup (pv 2) pe_int (fun _ _ => rfl)) (pa_cons (pe_ix ix_tup (pv 2) pe_int (fun _ _ => rfl)) (pa_cons (pe_op op_add (pe_ix ix_tup (pv 2) pe_int (fun _ _ => rfl)) pe_int) (pa_cons pe_int pa_nil))))))))
      (pss_cons (ps_if (pt_cmpR (My.op_neNil hr.units) (pe_lc (own := [("one", 5)]) rfl sc_law_sample_right.nd (pi_list (pv 4)) (blkOk_by (own := [("one", 5)]) (N := ["m", "clip", "coder", "sound", "some", "one"]) (sc := defScope s_law_sample_right) (by decide +kernel)) (fun _ _ _ _ _ => (pg_name (i := 5) sc_law_sample_right.nd rfl (Or.inl rfl))) (fun _ _ _ _ _ => pts_one (pt_cmpR op_ne (pe_cmpR (My.op_inIK (K := K) T.at_Clip_contains T.fn_Clip_contains ((ok_Clip_contains T).raw T.b_Clip_contains .nil) (hr.mono (by decide)) pass0) (pv 5) (pv 1) (by with_unfolding_all rfl)) (pe_cmpR (My.op_in_seqK (K := K)) (pv 5) (pv 3) (by with_unfolding_all rfl)) (nomark _))) (fun _ _ _ _ _ => (pv 5))) (pe_lst pa_nil) (nomark _)) (pss_one (ps_ret pe_bl)) pss_nil)
      (pss_one (ps_ret (pe_cmpR (My.op_eqNil hr.units) (pe_lc (own := [("one", 5)]) rfl sc_law_sample_right.nd (pi_tup (pe_tup (pa_cons pe_non (pa_cons pe_bl (pa_cons pe_bl (pa_cons pe_str (pa_cons (pe_tup (pa_cons pe_int pa_nil)) (pa_cons (pe_lst (pa_cons pe_int pa_nil)) (pa_cons (pv 3) (pa_cons pe_dnewK pa_nil)))))))))) (blkOk_by (own := [("one", 5)]) (N := ["m", "clip", "coder", "sound", "some", "one"]) (sc := defScope s_law_sample_right) (by decide +kernel)) (fun _ _ _ _ _ => (pg_name (i := 5) sc_law_sample_right.nd rfl (Or.inl rfl))) (fun _ _ _ _ _ => pts_one (pt_cmpR (My.op_inIK (K := K) T.at_Clip_contains T.fn_Clip_contains ((ok_Clip_contains T).raw T.b_Clip_contains .nil) (hr.mono (by decide)) pass0) (pv 5) (pv 1) (by with_unfolding_all rfl))) (fun _ _ _ _ _ => (pv 5))) (pe_lst pa_nil) (nomark _)))))))
, ?_⟩
    obtain ⟨dx, c0, r0, x0, hp, _⟩ := B.cl.ex
    refine ⟨_, rfl, p, dx, _, rfl, hp, rfl, p, C, row, st, rfl, B.cl, fun t H1 s1 ht => ?_⟩
    have B1 := B.same s1
    obtain ⟨ca, sv, mv, ms, rfl, hca, _⟩ := cod_at B1.cv
    refine ⟨_, rfl, _, rfl, ?_⟩
    refine sl_takeA (n := 3) ht fun b H2 s2 hb => ?_
    rw [← List.map_take] at hb
    refine ⟨b, _, rfl, .inr hb, fun L1 hL1 => ?_⟩
    have B2 := B1.same s2
    have o1 := own_mk (xs := ((C.lev st row).take 3).map V.int) B2.D hL1
    have s3 := same_new (o := .lst (((C.lev st row).take 3).map V.int)) hL1
    have B3 := B2.same s3
    have ht3 := same_tup (s2.trans s3) ht
    have hca3 := same_tup (s2.trans s3) hca
    generalize upd H2 L1 (.lst (((C.lev st row).take 3).map V.int)) = H3 at o1 B3 ht3 hca3
    clear s3 hL1 B2 hb s2 B1 hca ht s1 hp B
    have O := B3.cl.O
    have hlow := O.l1
    have hhigh := O.h2
    have hl2 := O.l2
    have hh1 := O.h1
    refine ⟨_, rfl, ca, _, 0, _, rfl, rfl, hca3, atI_nat (j := 0) rfl, _, rfl, _, rfl, ca, _, 1, _, rfl, rfl, hca3, atI_nat (j := 1) rfl, _, rfl, ca, _, 0, _, rfl, rfl, hca3, atI_nat (j := 0) rfl, _, _, rfl, rfl, _, _, rfl, rfl, ?_⟩
    refine ⟨m, c, l, k, _, rfl, by omega, by omega, B3.D, fun r l4 H4 r0 r1 kp D4 => ?_⟩
    have kk := keep_draw kp B3.D
    have B4 := B3.draw kp D4
    have o4 := o1.kp kp
    have ht4 := kk.tup ht3
    have hca4 := kk.tup hca3
    clear kk kp o1 B3 ht3 hca3 D4
    refine ⟨_, _, rfl, rfl, _, rfl, ca, _, 1, _, rfl, rfl, hca4, atI_nat (j := 1) rfl, _, rfl, ca, _, 0, _, rfl, rfl, hca4, atI_nat (j := 0) rfl, _, rfl, ca, _, 1, _, rfl, rfl, hca4, atI_nat (j := 1) rfl, _, _, rfl, rfl, ?_⟩
    refine ⟨by show 5 ≤ sizeLine; decide, fun L2 hL2 => ?_⟩
    have s5 := same_new (o := .lst [V.int (C.low + r), V.int C.high, V.int C.low, V.int (C.high + 1), V.int 0]) hL2
    have o5 := o4.same s5
    refine ⟨L1, L2, _, _, rfl, rfl, o5.st, upd_same, by rw [List.length_map, List.length_take]; show min 3 _ + 5 ≤ sizeLine; exact Nat.le_trans (show min 3 (C.lev st row).length + 5 ≤ 8 by omega) (by decide), fun L3 hL3 => ?_⟩
    dsimp only
    have s6 := same_new (o := .lst (((C.lev st row).take 3).map V.int ++ [V.int (C.low + r), V.int C.high, V.int C.low, V.int (C.high + 1), V.int 0])) hL3
    have hL6 : (upd (upd H4 L2 (.lst [V.int (C.low + r), V.int C.high, V.int C.low, V.int (C.high + 1), V.int 0])) L3 (.lst (((C.lev st row).take 3).map V.int ++ [V.int (C.low + r), V.int C.high, V.int C.low, V.int (C.high + 1), V.int 0]))) L3 = some (.lst (((C.lev st row).take 3 ++ [C.low + r, C.high, C.low, C.high + 1, 0]).map V.int)) := by
      rw [List.map_append]
      exact upd_same
    have B6 := B4.same (s5.trans s6)
    have ht6 := same_tup (s5.trans s6) ht4
    have hzl : ((C.lev st row).take 3 ++ [C.low + r, C.high, C.low, C.high + 1, 0]).length ≤ 8 := by
      rw [List.length_append, List.length_take]
      show min 3 _ + 5 ≤ 8
      omega
    generalize (C.lev st row).take 3 ++ [C.low + r, C.high, C.low, C.high + 1, 0] = zs at hL6 hzl
    generalize upd (upd H4 L2 (.lst [V.int (C.low + r), V.int C.high, V.int C.low, V.int (C.high + 1), V.int 0])) L3 (.lst (((C.lev st row).take 3).map V.int ++ [V.int (C.low + r), V.int C.high, V.int C.low, V.int (C.high + 1), V.int 0])) = H6 at hL6 B6 ht6
    clear s5 s6 o5 hL2 hL3 hca4 ht4 B4 o4
    refine st_lit (t := tSeq _ _) [some (.ref m), some (.ref p), some (.ref ca), some (.ref t), some (.ref L3), none] rfl ?_
    refine ⟨_, rfl, L3, rfl, ⟨_, SqL.of hL6⟩, fun D hD => ?_⟩
    have sD := same_new (o := .lst []) hD
    refine lc_list (K := K) (a := L3) (xs := zs.map V.int) (fun i H' => Same H6 H' ∧ H' D = some (.lst [])) ⟨sD, upd_same⟩ ?_ ?_ ?_
    · exact fun i H' _ h => SqL.of (h.1 _ _ hL6)
    · rintro i x H' hx ⟨s7, hD7⟩
      have hx' := hx
      rw [List.getElem?_map] at hx'
      obtain ⟨z, hz, rfl⟩ := Option.map_eq_some_iff.mp hx'
      have B7 := B6.same s7
      obtain ⟨dx, _, _, _, hp, _⟩ := B7.cl.ex
      refine ⟨rfl, ?_⟩
      refine ⟨_, rfl, _, rfl, p, dx, _, rfl, hp, p, .int z, C, row, st, some (.int z), rfl, B7.cl, .int _, fun H8 s8 => ⟨_, rfl, ?_⟩⟩
      refine ⟨_, rfl, _, rfl, t, _, rfl, .inr (same_tup (s7.trans s8) ht6), rfl, by rw [List.all_map, List.all_eq_true]; exact fun _ _ => rfl, ?_⟩
      refine ⟨rfl, _, rfl, ?_⟩
      refine neB (by show inO _ _ = inV _ _; rw [inV_int]; rfl) ⟨s7.trans s8, s8 _ _ hD7⟩
    · rintro H' ⟨s7, hD7⟩
      refine ⟨by show 0 ≤ sizeLine; decide, fun nl hnl => ⟨D, nl, [], rfl, rfl, SqL.of (same_new hnl _ _ hD7), SqL.of upd_same, _, rfl, ?_⟩⟩
      refine iteF ?_
      have sN := s7.trans (same_new (o := .lst []) hnl)
      have B8 := B6.same sN
      have ht8 := same_tup sN ht6
      generalize upd H' nl (.lst []) = H8 at B8 ht8
      clear sN hnl hD7 s7 sD hD B6 ht6 hL6
      dsimp only [tNext]
      refine ⟨by show 1 ≤ sizeLine; decide, fun a1 ha1 => ⟨by show 1 ≤ sizeLine; decide, fun a2 ha2 => ⟨_, rfl, fun a3 ha3 => ⟨by show 8 ≤ sizeLine; decide, fun a4 ha4 => ?_⟩⟩⟩⟩
      have x1 := same_new (o := .tup [V.int 0]) ha1
      have x2 := same_new (o := .lst [V.int 0]) ha2
      have x3 := same_new (o := .dK []) ha3
      have x4 := same_new (o := .tup [V.non, .bl true, .bl false, .str "0", .ref a1, .ref a2, .ref t, .ref a3]) ha4
      have B9 := B8.same (((x1.trans x2).trans x3).trans x4)
      have all : ∀ x ∈ [V.non, .bl true, .bl false, .str "0", .ref a1, .ref a2, .ref t, .ref a3], ∃ o, An K (upd (upd (upd (upd H8 a1 (.tup [V.int 0])) a2 (.lst [V.int 0])) a3 (.dK [])) a4 (.tup [V.non, .bl true, .bl false, .str "0", .ref a1, .ref a2, .ref t, .ref a3])) x o ∧ inO o (C.lev st row) = false := by
        intro x hx
        simp only [List.mem_cons, List.not_mem_nil, or_false] at hx
        rcases hx with rfl | rfl | rfl | rfl | rfl | rfl | rfl | rfl
        · exact ⟨some .none, .non, rfl⟩
        · exact ⟨some (.bool true), .bl _, rfl⟩
        · exact ⟨some (.bool false), .bl _, rfl⟩
        · exact ⟨some (.str "0"), .str _, rfl⟩
        · exact ⟨none, ⟨_, .base (.tup (x4 _ _ (x3 _ _ (x2 _ _ upd_same)))), rfl⟩, rfl⟩
        · exact ⟨none, ⟨_, .base (.lst (x4 _ _ (x3 _ _ upd_same))), rfl⟩, rfl⟩
        · exact ⟨some (.tuple ((C.lev st row).map .int)), dp_same (((x1.trans x2).trans x3).trans x4) _ _ (dp_intsT ht8), rfl⟩
        · exact ⟨none, ⟨_, .base (.dK (x4 _ _ upd_same)), rfl⟩, rfl⟩
      have h4 : SqT K (upd (upd (upd (upd H8 a1 (.tup [V.int 0])) a2 (.lst [V.int 0])) a3 (.dK [])) a4 (.tup [V.non, .bl true, .bl false, .str "0", .ref a1, .ref a2, .ref t, .ref a3])) a4 [V.non, .bl true, .bl false, .str "0", .ref a1, .ref a2, .ref t, .ref a3] := upd_tup
      refine ⟨a4, rfl, ⟨_, h4⟩, fun D2 hD2 => ?_⟩
      generalize upd (upd (upd (upd H8 a1 (.tup [V.int 0])) a2 (.lst [V.int 0])) a3 (.dK [])) a4 (.tup [V.non, .bl true, .bl false, .str "0", .ref a1, .ref a2, .ref t, .ref a3]) = H9 at B9 all h4 hD2
      clear x1 x2 x3 x4 ha1 ha2 ha3 ha4 B8 ht8
      have sD2 := same_new (o := .lst []) hD2
      refine lc_tup (K := K) (a := a4) (xs := [V.non, .bl true, .bl false, .str "0", .ref a1, .ref a2, .ref t, .ref a3]) (fun i H' => Same H9 H' ∧ H' D2 = some (.lst [])) ⟨sD2, upd_same⟩ ?_ ?_ ?_
      · exact fun i H' _ h => same_tup h.1 h4
      · rintro i x H' hx ⟨s7, hD7⟩
        obtain ⟨o, ho, hno⟩ := all x (List.mem_of_getElem? hx)
        have BA := B9.same s7
        obtain ⟨dx, _, _, _, hp, _⟩ := BA.cl.ex
        refine ⟨rfl, ?_⟩
        refine ⟨_, rfl, _, rfl, p, dx, _, rfl, hp, p, x, C, row, st, o, rfl, BA.cl, ho.same s7, fun HB sB => ⟨_, rfl, ?_⟩⟩
        refine ⟨_, rfl, ?_⟩
        rw [hno]
        exact iteF ⟨s7.trans sB, sB _ _ hD7⟩
      · rintro H' ⟨s7, hD7⟩
        refine ⟨by show 0 ≤ sizeLine; decide, fun nl hnl => ⟨D2, nl, [], rfl, rfl, SqL.of (same_new hnl _ _ hD7), SqL.of upd_same, ?_⟩⟩
        exact q _ _ (B9.same (s7.trans (same_new hnl)))
end
end My

set_option pp.maxSteps 700
/-! clips times numbers -/
namespace My
open PySem PySem.Spec PyProof.Rows L2 LamX
theorem ty_ext {K : PySem.W.Frag} {H H' : Hp} {x : V} {t : Value} (s : ExtN H H') (h : TyX K H x t) : TyX K H' x t := by
  cases h with
  | base h =>
    cases h with
    | non => exact .base .non
    | bl b => exact .base (.bl b)
    | int i => exact .base (.int i)
    | str x => exact .base (.str x)
    | flt x => exact .base (.flt x)
    | lst e => exact .base (.lst (s _ _ e nofun))
    | frz e => exact .base (.frz (s _ _ e nofun))
    | tup e => exact .base (.tup (s _ _ e nofun))
    | dK e => exact .base (.dK (s _ _ e nofun))
    | dT e => exact .base (.dT (s _ _ e nofun))
    | ins e a b c d f => exact .base (.ins (s _ _ e nofun) a b c d f)
  | byt b => exact .byt b
  | set e => exact .set (s _ _ e nofun)
  | kList e c => exact .kList e c
  | kTuple e c => exact .kTuple e c
  | kDict e c => exact .kDict e c
  | fTuple e => exact .fTuple (s _ _ e nofun)
  | fDict e => exact .fDict (s _ _ e nofun)
theorem An.ext {K : PySem.W.Frag} {H H' : Hp} {x : V} {o : Option PyData} (s : ExtN H H') (h : An K H x o) : An K H' x o := by
  cases o with
  | some d => exact dp_ext s _ _ h
  | none => exact ⟨h.choose, ty_ext s h.choose_spec.1, h.choose_spec.2⟩
/-- what no clip can be multiplied by -/
def Odd9 (K : PySem.W.Frag) (p : Addr) (H : Hp) (x : V) : Prop :=
  (∃ o, An K H x o ∧ btwO o 0 2000 = false) ∧ (x = .ref p ∨ ((∃ T ∈ sevenT, TyX K H x (.type T)) ∧ ((∃ i, x = .int i) ∨ (∃ k, x = .bl k) ∨ ∃ T ∈ fourT, TyX K H x (.type T))))
theorem Odd9.same {K : PySem.W.Frag} {p : Addr} {H H' : Hp} {x : V} (s : Same H H') (h : Odd9 K p H x) : Odd9 K p H' x := by
  obtain ⟨⟨o, a, b⟩, h⟩ := h
  refine ⟨⟨o, a.same s, b⟩, ?_⟩
  rcases h with h | ⟨⟨T, c, d⟩, h | h | ⟨T', e, f⟩⟩
  · exact .inl h
  · exact .inr ⟨⟨T, c, ty_same s d⟩, .inl h⟩
  · exact .inr ⟨⟨T, c, ty_same s d⟩, .inr (.inl h)⟩
  · exact .inr ⟨⟨T, c, ty_same s d⟩, .inr (.inr ⟨T', e, ty_same s f⟩)⟩
theorem Odd9.ext {K : PySem.W.Frag} {p : Addr} {H H' : Hp} {x : V} (s : ExtN H H') (h : Odd9 K p H x) : Odd9 K p H' x := by
  obtain ⟨⟨o, a, b⟩, h⟩ := h
  refine ⟨⟨o, a.ext s, b⟩, ?_⟩
  rcases h with h | ⟨⟨T, c, d⟩, h | h | ⟨T', e, f⟩⟩
  · exact .inl h
  · exact .inr ⟨⟨T, c, ty_ext s d⟩, .inl h⟩
  · exact .inr ⟨⟨T, c, ty_ext s d⟩, .inr (.inl h)⟩
  · exact .inr ⟨⟨T, c, ty_ext s d⟩, .inr (.inr ⟨T', e, ty_ext s f⟩)⟩
section
variable {K : PySem.W.Frag} {mg : Str → Option Value} {T : Txt K mg} {H : Hp} {Q : VK} {E : XK} {p : Addr} {C : Cod} {row : List Nat} {st : Int × Int}
theorem mul_sp {t : Nat} (cl : ClS T H p C row st) (ht : t ≤ 2000) (ok : row.length * t ≤ 2000 → ∀ q H1, Same H H1 → H q = none → ClS T H1 q C ((List.replicate t row).flatten) st → Q (.ref q) H1)
    (no : 2000 < row.length * t → OneE T.C_TooGreat "most" H E (.int 2000)) : sp_Clip_mul T [.ref p, .int (t : Int)] H Q E := by
  have inj : ∀ t' : Nat, (some (PyData.int (t : Int))) = some (.int (t' : Int)) → t = t' := fun t' e => by
    have := PyData.int.inj (Option.some.inj e)
    omega
  refine ⟨p, .int (t : Int), C, row, st, some (.int (t : Int)), rfl, cl, .int _, ⟨fun e => ?_, fun t' e _ h => ?_⟩, fun t' e _ h => ?_⟩
  · have : (decide ((0 : Int) ≤ t) && decide ((t : Int) ≤ 2000)) = false := e
    rw [decide_eq_true (by omega), decide_eq_true (by omega)] at this
    cases this
  · obtain rfl := inj t' e
    exact no h
  · obtain rfl := inj t' e
    exact ok h
theorem odd_sp {y : V} (cl : ClS T H p C row st) (h : ∃ o, An K H y o ∧ btwO o 0 2000 = false) (q : NilE T.C_OutOfPlace H E) : sp_Clip_mul T [.ref p, y] H Q E := by
  obtain ⟨o, ho, hb⟩ := h
  refine ⟨p, y, C, row, st, o, rfl, cl, ho, ⟨fun _ => q, fun t e ht h => ?_⟩, fun t e ht h => ?_⟩
  · subst e
    have : (decide ((0 : Int) ≤ t) && decide ((t : Int) ≤ 2000)) = false := hb
    rw [decide_eq_true (by omega), decide_eq_true (by omega)] at this
    cases this
  · subst e
    have : (decide ((0 : Int) ≤ t) && decide ((t : Int) ≤ 2000)) = false := hb
    rw [decide_eq_true (by omega), decide_eq_true (by omega)] at this
    cases this
theorem dcl_one {L L' q z : Addr} {C : Cod} {row : List Nat} {s : Int × Int} (h1 : H L = some (.lst [.ref q])) (h2 : H L' = some (.lst [.ref z])) (c1 : ClS T H q C row s) (c2 : ClS T H z C row s) : DCl T (.ref L) (.ref L') H := by
  obtain ⟨dx, _, _, _, a, _⟩ := c1.ex
  obtain ⟨dy, _, _, _, b, _⟩ := c2.ex
  exact ⟨L, L', _, _, rfl, rfl, h1, h2, Prs.cons ⟨q, z, dx, dy, _, _, rfl, rfl, a, b, C, row, s, c1, c2⟩ Prs.nil⟩
end
section
variable {P : Program} {w : World} {K : PySem.W.Frag} {mg : Str → Option Value} {base : Heap}
/-- what is due -/
def Due (T : Txt K mg) (H : Hp) (C : Cod) (row : List Nat) (s : Int × Int) (t : Nat) (v : V) : Prop :=
  (row.length * t ≤ 2000 ∧ ∃ L z, v = .ref L ∧ H L = some (.lst [.ref z]) ∧ ClS T H z C ((List.replicate t row).flatten) s) ∨ (2000 < row.length * t ∧ Dp K H v (.tuple [.str "great", .int 2000]))
theorem Due.same {T : Txt K mg} {H H' : Hp} {C : Cod} {row : List Nat} {s : Int × Int} {t : Nat} {v : V} (h : Due T H C row s t v) (e : Same H H') : Due T H' C row s t v := by
  rcases h with ⟨a, L, z, b, c, d⟩ | ⟨a, b⟩
  · exact .inl ⟨a, L, z, b, e _ _ c, d.same e⟩
  · exact .inr ⟨a, dp_same e _ _ b⟩
theorem Due.ext {T : Txt K mg} {H H' : Hp} {C : Cod} {row : List Nat} {s : Int × Int} {t : Nat} {v : V} (h : Due T H C row s t v) (e : ExtN H H') : Due T H' C row s t v := by
  rcases h with ⟨a, L, z, b, c, d⟩ | ⟨a, b⟩
  · exact .inl ⟨a, L, z, b, e _ _ c nofun, d.ext e⟩
  · exact .inr ⟨a, dp_ext e _ _ b⟩
def sp_law_times_right (T : Txt K mg) : Sp := fun vs H Q _ => ∃ (m c l p : Addr) (k : Nat) (cv rv hv : V) (C : Cod) (row : List Nat) (s : Int × Int), vs = [.ref m, .ref p, cv, rv, hv] ∧ Bg T H m c l (k + 3) p C row s cv rv hv ∧
  ∀ l' H', Bg T H' m c l' k p C row s cv rv hv → Q (.bl true) H'
set_option maxHeartbeats 4000000 in
theorem ok_law_times_right (T : Txt K mg) (TB : TabB base mg T.c__law_times_right T.P__law_times_right) : FnG P w K mg base 17 T.f__law_times_right T.d__law_times_right ["m", "clip", "coder", "row", "here"] (sp_law_times_right T) := by
  refine okGc T.F__law_times_right T.cd__law_times_right sc_law_times_right (fun vs H Q E h => ?_) (fun A outer s H vs Q E hgd hr h => ?_)
  · obtain ⟨m, c, l, p, k, cv, rv, hv, C, row, s, rfl, _⟩ := h
    rfl
  · obtain ⟨m, c, l, p, k, cv, rv, hv, C, row, st, rfl, B, q⟩ := h
    refine ⟨_,
(pss_cons (ps_set (i := 8) sc_law_times_right.nd rfl (Or.inr rfl) (pe_ix ix_list (pe_lst (pa_cons pe_int (pa_cons pe_int (pa_cons pe_int (pa_cons pe_int (pa_cons pe_int (pa_cons pe_int (pa_cons (pe_call (ok_law_next T) (hr.mono (by decide)) (by rfl) T.g__law_next T.F__law_next.kp T.b__law_next .nil pass0 (pa_cons (pv 0) (pa_cons pe_int pa_nil))) pa_nil)))))))) (pe_call (ok_law_next T) (hr.mono (by decide)) (by rfl) T.g__law_next T.F__law_next.kp T.b__law_next .nil pass0 (pa_cons (pv 0) (pa_cons pe_int pa_nil))) (fun _ _ => rfl)))
      (pss_cons (ps_set (i := 5) sc_law_times_right.nd rfl (Or.inl rfl) (pe_tup (pa_cons pe_str (pa_cons pe_int pa_nil))))
      (pss_cons (ps_if (pt_cmpR op_le (pe_op op_mul (pe_callB (call_len_seq) (by rfl) T.z_len (by decide +kernel) (pa_cons (pv 3) pa_nil)) (pv 8)) pe_int (nomark _)) (pss_one (ps_set (i := 5) sc_law_times_right.nd rfl (Or.inl rfl) (pe_lst (pa_cons (pe_makeK T.mk_Clip (ok_Clip_init T) (hr.mono (by decide)) (by rfl) T.g_Clip T.k_Clip_init passL (pa_cons (pv 2) (pa_cons (pe_op My.op_repB (pv 3) (pv 8)) pa_nil)) (pk_cons (pv 4) pk_nil)) pa_nil)))) pss_nil)
      (pss_cons (ps_for PassesOwn.never rfl (pi_range1 (by rfl) T.z_range (pa_cons pe_int pa_nil)) (pg_name (i := 6) sc_law_times_right.nd rfl (Or.inl rfl)) (pss_cons (ps_if (pt_cmpR (My.op_neLI T hr.units (hr.mono (by decide)) pass0) (My.pe_outcomeL (k := 12) T (TL T) TB rfl (.head _) (tl_ok T) (by rfl) (hr.mono (by decide)) (lamS_by (by show lamSB (defScope s_law_times_right) _ = true; decide +kernel)) rfl (fun _ _ _ _ _ => rfl) (fun A outer s H E f c' hr => (pe_op (My.op_binAK (K := K) (op := .Mult) (.inr rfl) T.sf_Clip T.at_Clip_rmul (.inr ⟨_, rfl⟩) T.sb_Clip T.at_Clip_mul T.fn_Clip_mul ((ok_Clip_mul T).raw T.b_Clip_mul .nil) (hr.mono (by decide)) (passes_call (takes_of rfl rfl rfl rfl) (fun _ _ _ _ h => h))) (pv 1) (pv 8)))) (pv 5) (nomark _)) (pss_one (ps_ret pe_bl)) pss_nil)
      (pss_one (ps_if (pt_cmpR (My.op_neLI T hr.units (hr.mono (by decide)) pass0) (My.pe_outcomeL (k := 12) T (TL T) TB rfl (.head _) (tl_ok T) (by rfl) (hr.mono (by decide)) (lamS_by (by show lamSB (defScope s_law_times_right) _ = true; decide +kernel)) rfl (fun _ _ _ _ _ => rfl) (fun A outer s H E f c' hr => (pe_op (My.op_mulAK (K := K) T.sf_Clip T.at_Clip_mul T.fn_Clip_mul T.si_Clip T.sj_Clip T.at_Clip_rmul T.fn_Clip_rmul ((ok_Clip_mul T).raw T.b_Clip_mul .nil) (hr.mono (by decide)) ((ok_Clip_rmul T).raw T.b_Clip_rmul .nil) (hr.mono (by decide)) (passes_call (takes_of rfl rfl rfl rfl) (fun _ _ _ _ h => h))) (pv 8) (pv 1)))) (pv 5) (nomark _)) (pss_one (ps_ret pe_bl)) pss_nil))))
      (pss_cons (ps_set (i := 7) sc_law_times_right.nd rfl (Or.inr rfl) (pe_ix ix_list (pe_lst (pa_cons (pe_un un_neg pe_int) (pa_cons pe_int (pa_cons pe_non (pa_cons pe_str (pa_cons (pe_tup (pa_cons pe_int pa_nil)) (pa_cons (pe_lst (pa_cons pe_int pa_nil)) (pa_cons pe_bl (pa_cons (pe_op op_pow pe_int pe_int) (pa_cons (pv 1) pa_nil)))))))))) (pe_call (ok_law_next T) (hr.mono (by decide)) (by rfl) T.g__law_next T.F__law_next.kp T.b__law_next .nil pass0 (pa_cons (pv 0) (pa_cons pe_int pa_nil))) (fun _ _ => rfl)))
      (pss_cons (ps_if (pt_cmpR (op_neD hr.units) (My.pe_outcomeL (k := 12) T (TL T) TB rfl (.head _) (tl_ok T) (by rfl) (hr.mono (by decide)) (lamS_by (by show lamSB (defScope s_law_times_right) _ = true; decide +kernel)) rfl (fun _ _ _ _ _ => rfl) (fun A outer s H E f c' hr => (pe_op (My.op_binAK (K := K) (op := .Mult) (.inr rfl) T.sf_Clip T.at_Clip_rmul (.inr ⟨_, rfl⟩) T.sb_Clip T.at_Clip_mul T.fn_Clip_mul ((ok_Clip_mul T).raw T.b_Clip_mul .nil) (hr.mono (by decide)) (passes_call (takes_of rfl rfl rfl rfl) (fun _ _ _ _ h => h))) (pv 1) (pv 7)))) (pe_tup (pa_cons pe_str (pa_cons pe_non pa_nil))) (nomark _)) (pss_one (ps_ret pe_bl)) pss_nil)
      (pss_one (ps_ret (pe_cmpR (op_eqD hr.units) (My.pe_outcomeL (k := 12) T (TL T) TB rfl (.head _) (tl_ok T) (by rfl) (hr.mono (by decide)) (lamS_by (by show lamSB (defScope s_law_times_right) _ = true; decide +kernel)) rfl (fun _ _ _ _ _ => rfl) (fun A outer s H E f c' hr => (pe_op (My.op_mulAK (K := K) T.sf_Clip T.at_Clip_mul T.fn_Clip_mul T.si_Clip T.sj_Clip T.at_Clip_rmul T.fn_Clip_rmul ((ok_Clip_mul T).raw T.b_Clip_mul .nil) (hr.mono (by decide)) ((ok_Clip_rmul T).raw T.b_Clip_rmul .nil) (hr.mono (by decide)) (passes_call (takes_of rfl rfl rfl rfl) (fun _ _ _ _ h => h))) (pv 7) (pv 1)))) (pe_tup (pa_cons pe_str (pa_cons pe_non pa_nil))) (nomark _))))))))))
, ?_⟩
    refine ⟨_, rfl, m, c, l, k + 2, 2001, rfl, by decide, by decide, B.D, fun r1 l1 H1 a0 a1 kp1 D1 => ?_⟩
    have B1 := B.draw kp1 D1
    refine ⟨by show 7 ≤ sizeLine; decide, fun W hW => ?_⟩
    have oW := own_mk (xs := ([0, 1, 2, 3, 40, 2000, r1] : List Int).map V.int) B1.D hW
    have B2 := B1.same (same_new (o := .lst (([0, 1, 2, 3, 40, 2000, r1] : List Int).map V.int)) hW)
    refine ⟨_, rfl, m, c, l1, k + 1, 7, rfl, by decide, by decide, B2.D, fun r2 l2 H2 b0 b1 kp2 D2 => ?_⟩
    have B3 := B2.draw kp2 D2
    obtain ⟨tz, htz, hat⟩ := pick_int (xs := [0, 1, 2, 3, 40, 2000, r1]) b0 b1
    have htz2 : 0 ≤ tz ∧ tz ≤ 2000 := by
      simp only [List.mem_cons, List.not_mem_nil, or_false] at htz
      omega
    refine ⟨W, _, r2, _, rfl, rfl, SqL.of (oW.kp kp2).st, hat, ?_⟩
    obtain ⟨t, rfl⟩ := Int.eq_ofNat_of_zero_le htz2.1
    have ht : t ≤ 2000 := by omega
    clear hat htz2 htz b0 b1 kp2 D2 B2 oW hW B1 kp1 D1 a0 a1 B
    refine ⟨by show 2 ≤ sizeLine; decide, fun d hd => ?_⟩
    have s4 := same_new (o := .tup [V.str "great", V.int 2000]) hd
    have B4 := B3.same s4
    have hdd : Dp K (upd H2 d (.tup [V.str "great", V.int 2000])) (.ref d) (.tuple [.str "great", .int 2000]) := .tup upd_tup (.cons (.str _) (.cons (.int _) .nil))
    generalize upd H2 d (.tup [V.str "great", V.int 2000]) = H4 at B4 hdd
    clear s4 hd B3
    dsimp only
    refine st_lit (t := tSeq _ _) [some (.ref m), some (.ref p), some cv, some rv, some hv, some (.ref d), none, none, some (.int (t : Int))] rfl ?_
    refine st_tail (fun σ H' => ∃ v, σ = [some (.ref m), some (.ref p), some cv, some rv, some hv, some v, none, none, some (.int (t : Int))] ∧ Bg T H' m c l2 (k + 1) p C row st cv rv hv ∧ Due T H' C row st t v) ?_ fun tail => ?_
    · rintro σ H5 ⟨v, rfl, B5, du⟩
      refine st_tail (fun σ H' => ∃ a, σ = [some (.ref m), some (.ref p), some cv, some rv, some hv, some v, some a, none, some (.int (t : Int))] ∧ Bg T H' m c l2 (k + 1) p C row st cv rv hv) ?_ fun tail2 => ?_
      · rintro σ H6 ⟨a, rfl, B6⟩
        clear B5 du hdd B4
        refine ⟨_, rfl, by show 1 ≤ sizeLine; decide, fun a1 ha1 => ⟨by show 1 ≤ sizeLine; decide, fun a2 ha2 => ⟨_, _, rfl, rfl, ⟨by decide, by decide, by decide⟩, _, rfl, by show 9 ≤ sizeLine; decide, fun W hW => ?_⟩⟩⟩
        dsimp only
        have x1 := same_new (o := .tup [V.int 1]) ha1
        have x2 := same_new (o := .lst [V.int 1]) ha2
        have B7 := B6.same (x1.trans x2)
        have hb1 : upd (upd H6 a1 (.tup [V.int 1])) a2 (.lst [V.int 1]) a1 = some (.tup [V.int 1]) := x2 _ _ upd_same
        have o2 := own_mk (xs := [V.int 1]) (B6.same x1).D ha2
        generalize upd (upd H6 a1 (.tup [V.int 1])) a2 (.lst [V.int 1]) = H7 at B7 hb1 o2 hW
        have oW := own_mk (xs := [V.int (-1), .int 2001, .non, .str "2", .ref a1, .ref a2, .bl true, .int (10 ^ (30 : Int).toNat), .ref p]) B7.D hW
        have xW := same_new (o := .lst [V.int (-1), .int 2001, .non, .str "2", .ref a1, .ref a2, .bl true, .int (10 ^ (30 : Int).toNat), .ref p]) hW
        have B8 := B7.same xW
        refine ⟨_, rfl, m, c, l2, k, 9, rfl, by decide, by decide, B8.D, fun r3 l3 H9 c0 c1 kp3 D3 => ?_⟩
        have B9 := B8.draw kp3 D3
        have g1 : SqT K H9 a1 [V.int 1] := (keep_draw kp3 B8.D).tup (.inl (.inl (xW _ _ hb1)))
        have g2 := ((o2.same xW).kp kp3).st
        obtain ⟨x, hx, hat⟩ := pick_v (xs := [V.int (-1), .int 2001, .non, .str "2", .ref a1, .ref a2, .bl true, .int (10 ^ (30 : Int).toNat), .ref p]) c0 c1
        refine ⟨W, _, r3, _, rfl, rfl, SqL.of (oW.kp kp3).st, hat, ?_⟩
        have od : Odd9 K p H9 x := by
          have g1' : Dp K H9 (.ref a1) (.tuple [.int 1]) := .tup g1 (.cons (.int _) .nil)
          obtain ⟨dp, _, _, _, hp9, _⟩ := B9.cl.ex
          simp only [List.mem_cons, List.not_mem_nil, or_false] at hx
          rcases hx with rfl | rfl | rfl | rfl | rfl | rfl | rfl | rfl | rfl
          · exact ⟨⟨some (.int (-1)), .int _, rfl⟩, .inr ⟨⟨"int", by unfold sevenT; simp, .base (.int _)⟩, .inl ⟨_, rfl⟩⟩⟩
          · exact ⟨⟨some (.int 2001), .int _, rfl⟩, .inr ⟨⟨"int", by unfold sevenT; simp, .base (.int _)⟩, .inl ⟨_, rfl⟩⟩⟩
          · exact ⟨⟨some .none, .non, rfl⟩, .inr ⟨⟨"NoneType", by unfold sevenT; simp, .base .non⟩, .inr (.inr ⟨"NoneType", by unfold fourT; simp, .base .non⟩)⟩⟩
          · exact ⟨⟨some (.str "2"), .str _, rfl⟩, .inr ⟨⟨"str", by unfold sevenT; simp, .base (.str _)⟩, .inr (.inr ⟨"str", by unfold fourT; simp, .base (.str _)⟩)⟩⟩
          · exact ⟨⟨some (.tuple [.int 1]), g1', rfl⟩, .inr ⟨⟨"tuple", by unfold sevenT; simp, tyx g1'⟩, .inr (.inr ⟨"tuple", by unfold fourT; simp, tyx g1'⟩)⟩⟩
          · exact ⟨⟨none, ⟨_, .base (.lst g2), rfl⟩, rfl⟩, .inr ⟨⟨"list", by unfold sevenT; simp, .base (.lst g2)⟩, .inr (.inr ⟨"list", by unfold fourT; simp, .base (.lst g2)⟩)⟩⟩
          · exact ⟨⟨some (.bool true), .bl _, rfl⟩, .inr ⟨⟨"bool", by unfold sevenT; simp, .base (.bl _)⟩, .inr (.inl ⟨_, rfl⟩)⟩⟩
          · exact ⟨⟨some (.int _), .int _, by decide +kernel⟩, .inr ⟨⟨"int", by unfold sevenT; simp, .base (.int _)⟩, .inl ⟨_, rfl⟩⟩⟩
          · exact ⟨⟨none, ⟨_, T.is_Clip.ty T.cl_Clip hp9, kit_ownT (by decide +kernel) T.si_Clip⟩, rfl⟩, .inl rfl⟩
        clear hat g1 g2 kp3 D3 B8 oW xW hx o2 hb1 B7 x1 x2 ha1 ha2 hW B6
        dsimp only
        refine st_lit (t := tSeq _ _) [some (.ref m), some (.ref p), some cv, some rv, some hv, some v, some a, some x, some (.int (t : Int))] rfl ?_
        refine ⟨B9.T, fun HL eL tL HM sM QL qL => ?_⟩
        have BM := (B9.ext eL tL).same sM
        have oM := (od.ext eL).same sM
        obtain ⟨dx, _, _, _, hp, _⟩ := BM.cl.ex
        refine ⟨_, rfl, _, rfl, p, dx, _, rfl, hp, ?_, ?_⟩
        · rcases oM.2 with rfl | h
          · exact .inl ⟨p, dx, _, rfl, hp⟩
          · exact .inr h.1
        refine odd_sp BM.cl oM.1 (place_E fun z HA sA hz => ?_)
        refine ⟨by show 2 ≤ sizeLine; decide, fun tt htt => ?_⟩
        have sT := same_new (o := .tup [V.str "place", V.non]) htt
        refine neD_same (dp_same sT _ _ hz) (.tup upd_tup (.cons (.str _) (.cons .non .nil))) (by decide +kernel) ?_
        have BN := BM.same (sA.trans sT)
        have oN := oM.same (sA.trans sT)
        generalize upd HA tt (.tup [V.str "place", V.non]) = HB at BN oN
        clear sT htt hz sA hp oM BM qL sM tL eL B9 od
        dsimp only [tNext]
        refine ⟨BN.T, fun HL eL tL HM sM QL qL => ?_⟩
        have BM := (BN.ext eL tL).same sM
        have oM := (oN.ext eL).same sM
        obtain ⟨dx, _, _, _, hp, _⟩ := BM.cl.ex
        refine ⟨_, rfl, _, rfl, p, dx, _, rfl, hp, ?_⟩
        have fin : ∀ z HA, Same HM HA → Dp K HA z (.tuple [.str "place", .none]) → ∀ tt, HA tt = none → rEqD K z (.ref tt) (upd HA tt (.tup [V.str "place", V.non])) Q := fun z HA sA hz tt htt => by
          have sT := same_new (o := .tup [V.str "place", V.non]) htt
          refine ⟨.tuple [.str "place", .none], .tuple [.str "place", .none], dp_same sT _ _ hz, .tup upd_tup (.cons (.str _) (.cons .non .nil)), by decide +kernel, by decide +kernel, ?_⟩
          rw [eqv_self (by decide +kernel)]
          exact q _ _ (BM.same (sA.trans sT))
        rcases oM.2 with rfl | h
        · exact .inl ⟨p, dx, _, rfl, hp, odd_sp BM.cl oM.1 (place_E fun z HA sA hz => ⟨by show 2 ≤ sizeLine; decide, fun tt htt => fin z HA sA hz tt htt⟩)⟩
        · exact .inr ⟨h.2, odd_sp BM.cl oM.1 (place_E fun z HA sA hz => ⟨by show 2 ≤ sizeLine; decide, fun tt htt => fin z HA sA hz tt htt⟩)⟩
      · refine ⟨2, rfl, by decide, by decide, ?_⟩
        refine for_range (lo := 0) (n := 2) (fun j σ H' => ∃ a, σ = [some (.ref m), some (.ref p), some cv, some rv, some hv, some v, a, none, some (.int (t : Int))] ∧ (j = 0 ∨ a ≠ none) ∧ Bg T H' m c l2 (k + 1) p C row st cv rv hv ∧ Due T H' C row st t v) ⟨_, rfl, .inl rfl, B5, du⟩ ?_ ?_
        · rintro j σ H6 hj ⟨a, rfl, _, B6, du6⟩
          by_cases hle : row.length * t ≤ 2000
          · refine ⟨B6.T, fun HL0 eL0 tL0 HM0 sM0 QL0 qL0 => ?_⟩
            have BM0 := (B6.ext eL0 tL0).same sM0
            have dM0 := (du6.ext eL0).same sM0
            obtain ⟨dx0, _, _, _, hp0, _⟩ := BM0.cl.ex
            refine ⟨_, rfl, _, rfl, p, dx0, _, rfl, hp0, .inr ⟨"int", by unfold sevenT; simp, .base (.int _)⟩, ?_⟩
            refine mul_sp BM0.cl ht (fun _ q0 HA0 sA0 hn0 hc0 => ?_) (fun h => by omega)
            refine qL0 _ HA0 fun L0 hL0 => ?_
            have sL0 := sA0.trans (same_new (o := .lst [V.ref q0]) hL0)
            have dN0 := dM0.same sL0
            obtain ⟨_, L, z, eL, hLz, hz⟩ := dN0.resolve_right (fun h => by have := h.1; omega)
            cases eL
            refine ⟨_, rfl, .inr ⟨dcl_one upd_same hLz (hc0.same (same_new (o := .lst [V.ref q0]) hL0)) hz, fun HE0 sE0 => ⟨_, rfl, iteF ?_⟩⟩⟩
            have B9 := ((BM0.same sL0).same sE0)
            have du9 := dN0.same sE0
            clear hz hLz hc0 hn0 sE0 sL0 hL0 sA0 dN0 dM0 BM0 hp0 qL0 sM0 tL0 eL0 B6 du6
            dsimp only [tNext]
            refine ⟨B9.T, fun HL1 eL1 tL1 HM1 sM1 QL1 qL1 => ?_⟩
            have BM1 := (B9.ext eL1 tL1).same sM1
            have dM1 := (du9.ext eL1).same sM1
            obtain ⟨dx1, _, _, _, hp1, _⟩ := BM1.cl.ex
            refine ⟨_, rfl, _, rfl, p, dx1, _, rfl, hp1, .inr ⟨.inl ⟨_, rfl⟩, ?_⟩⟩
            refine mul_sp BM1.cl ht (fun _ q1 HA1 sA1 hn1 hc1 => ?_) (fun h => by omega)
            refine qL1 _ HA1 fun L1 hL1 => ?_
            have sL1 := sA1.trans (same_new (o := .lst [V.ref q1]) hL1)
            have dN1 := dM1.same sL1
            obtain ⟨_, L', z', eL', hLz, hz⟩ := dN1.resolve_right (fun h => by have := h.1; omega)
            cases eL'
            refine ⟨_, rfl, .inr ⟨dcl_one upd_same hLz (hc1.same (same_new (o := .lst [V.ref q1]) hL1)) hz, fun HE1 sE1 => ⟨_, rfl, iteF ?_⟩⟩⟩
            have BZ := ((BM1.same sL1).same sE1)
            have duZ := dN1.same sE1
            exact ⟨_, rfl, .inr nofun, BZ, duZ⟩
          · refine ⟨B6.T, fun HL0 eL0 tL0 HM0 sM0 QL0 qL0 => ?_⟩
            have BM0 := (B6.ext eL0 tL0).same sM0
            have dM0 := (du6.ext eL0).same sM0
            obtain ⟨dx0, _, _, _, hp0, _⟩ := BM0.cl.ex
            refine ⟨_, rfl, _, rfl, p, dx0, _, rfl, hp0, .inr ⟨"int", by unfold sevenT; simp, .base (.int _)⟩, ?_⟩
            refine mul_sp BM0.cl ht (fun h => by omega) (fun _ => great_E fun z HA0 sA0 hz => ?_)
            have dN0 := dM0.same sA0
            obtain ⟨_, hdv⟩ := dN0.resolve_left (fun h => by have := h.1; omega)
            refine ⟨_, rfl, .inl (neD_same hz hdv (by decide +kernel) ?_)⟩
            have B9 := BM0.same sA0
            have du9 := dN0
            clear hz hdv sA0 dN0 dM0 BM0 hp0 qL0 sM0 tL0 eL0 B6 du6
            dsimp only [tNext]
            refine ⟨B9.T, fun HL1 eL1 tL1 HM1 sM1 QL1 qL1 => ?_⟩
            have BM1 := (B9.ext eL1 tL1).same sM1
            have dM1 := (du9.ext eL1).same sM1
            obtain ⟨dx1, _, _, _, hp1, _⟩ := BM1.cl.ex
            refine ⟨_, rfl, _, rfl, p, dx1, _, rfl, hp1, .inr ⟨.inl ⟨_, rfl⟩, ?_⟩⟩
            refine mul_sp BM1.cl ht (fun h => by omega) (fun _ => great_E fun z HA1 sA1 hz => ?_)
            have dN1 := dM1.same sA1
            obtain ⟨_, hdv⟩ := dN1.resolve_left (fun h => by have := h.1; omega)
            refine ⟨_, rfl, .inl (neD_same hz hdv (by decide +kernel) ?_)⟩
            have BZ := BM1.same sA1
            have duZ := dN1
            exact ⟨_, rfl, .inr nofun, BZ, duZ⟩
        · rintro σ H6 ⟨a, rfl, ha, B6, du6⟩
          obtain ⟨a, rfl⟩ : ∃ z, a = some z := Option.ne_none_iff_exists'.mp (ha.resolve_left (by decide))
          exact tail2 _ _ ⟨a, rfl, B6⟩
    · obtain ⟨ra, rfl, hra⟩ := row_at B4.rv
      have l1 : (rowV row).length = row.length := List.length_map ..
      have hrl := B4.cl.R.1
      refine ⟨_, rfl, ra, _, rfl, .inr hra, _, rfl, _, _, rfl, rfl, .inr ⟨by omega, by omega⟩, _, _, rfl, rfl, _, rfl, ?_⟩
      rw [l1, ← Int.natCast_mul]
      by_cases hle : row.length * t ≤ 2000
      · rw [decide_eq_true (by omega)]
        refine iteT ?_
        refine ⟨_, rfl, _, rfl, _, rfl, ra, t, rowV row, rfl, rfl, hra, ht, by rw [l1]; exact hrl, by rw [l1]; exact hle, fun b H5 s5 hb => ?_⟩
        rw [rowV_flat] at hb
        have B5 := B4.same s5
        have R2 : C.Row ((List.replicate t row).flatten) := ⟨by rw [flat_len2]; exact hle, fun k hk => B4.cl.R.lt k (flat_mem hk)⟩
        refine ⟨_, rfl, rfl, rfl, fun z dz hz hdz ne => ?_⟩
        refine clip_mk (T := T) hz hdz B5.cl.O B5.cv (dp_row hb) R2 B5.hv B5.cl.St fun H6 s6 hcl => ⟨rfl, ?_⟩
        refine ⟨by show 1 ≤ sizeLine; decide, fun L hL => ?_⟩
        have sL := same_new (o := .lst [V.ref z]) hL
        exact tail _ _ ⟨.ref L, rfl, (B5.same s6).same sL, .inl ⟨hle, L, z, rfl, upd_same, hcl.same sL⟩⟩
      · rw [decide_eq_false (by omega)]
        exact iteF (tail _ _ ⟨.ref d, rfl, B4, .inr ⟨by omega, hdd⟩⟩)
end
end My

set_option pp.maxSteps 600
/-! codes appended to a clip, and what is no row -/
namespace My
open PySem PySem.Spec PyProof.Rows L2 LamX
theorem codes_in {C : Cod} {row : List Nat} (h : ∀ k ∈ row, k < C.moves.length) : ∀ d ∈ row.map (fun k : Nat => PyData.int (k : Int)), codeD C d = true := fun d hd => by
  obtain ⟨k, hk, rfl⟩ := List.mem_map.mp hd
  exact codeD_in (h k hk)
theorem rowBad_at {C : Cod} {pre : List PyData} {d : PyData} {r : List PyData} (h : ∀ e ∈ pre, codeD C e = true) (hl : pre.length ≤ 2000) (hd : codeD C d = false) : rowBad C 0 (pre ++ d :: r) = some pre.length := by
  rw [rowBad_pre h (by omega), Nat.zero_add]
  show (if (decide (pre.length = 2000) || !codeD C d) = true then some pre.length else _) = _
  rw [hd, if_pos (by rw [Bool.not_false, Bool.or_true])]
theorem rowBad_long {C : Cod} {pre : List PyData} {d : PyData} {r : List PyData} (h : ∀ e ∈ pre, codeD C e = true) (hl : pre.length = 2000) : rowBad C 0 (pre ++ d :: r) = some 2000 := by
  rw [rowBad_pre h (by omega), Nat.zero_add, hl]
  rfl
theorem shaped_row3 (a b : Int) : SeqAt.shaped (.tuple [.str "row", .int a, .int b]) = true := by
  show (((PyData.str "row").canLay0 && ((PyData.int a).canLay0 && ((PyData.int b).canLay0 && true))) && decide _) = true
  rw [show (PyData.str "row").canLay0 = true by decide +kernel]
  rfl
theorem dpAll_rowV {K : PySem.W.Frag} {H : Hp} : ∀ r : List Nat, DpAll K H (rowV r) (r.map fun k : Nat => PyData.int (k : Int))
  | [] => .nil
  | k :: r => .cons (.int _) (dpAll_rowV r)
section
variable {P : Program} {w : World} {K : PySem.W.Frag} {mg : Str → Option Value} {base : Heap}
theorem cut_dropA {xs : List V} {n : Nat} : cutV xs (some (n : Int)) none = xs.drop n := by
  by_cases hn : n ≤ xs.length
  · exact cut_drop hn
  · rw [List.drop_eq_nil_of_le (by omega)]
    unfold cutV
    rw [HT.sIx_nat, Nat.min_eq_right (by omega), List.drop_length]
    exact List.take_nil
theorem sl_dropA {H : Hp} {a : Addr} {xs : List V} {n : Nat} {Q : VK} (h : SqT K H a xs) (k : ∀ b H', Same H H' → SqT K H' b (xs.drop n) → Q (.ref b) H') : rSlA K (.ref a) (some (n : Int)) none H Q := by
  by_cases hn : n ≤ xs.length
  · exact sl_dropV h hn k
  · refine ⟨a, xs, rfl, h, fun ⟨e, _⟩ => ?_, fun _ p hp => ?_⟩
    · rw [HT.sIx_nat, Nat.min_eq_right (by omega)] at e
      refine k _ H (Same.refl H) ?_
      rw [List.drop_eq_nil_of_le (by omega), ← List.length_eq_zero_iff.mp e]
      exact h
    · refine k _ _ (same_new hp) ?_
      rw [cut_dropA]
      exact upd_tup
theorem app_bad {T : Txt K mg} {H : Hp} {p : Addr} {y : V} {C : Cod} {row : List Nat} {st : Int × Int} {Q : VK} {E : XK} {rr : Option (List PyData)} {i j : Int} (cl : ClS T H p C row st) (h : Th K H y rr) (e : rowRes C rr = some (i, j))
    (q : ∀ z H', Same H H' → Dp K H' z (.tuple [.str "row", .int i, .int j]) → Q z H') : sp_law_appended T [.ref p, y] H Q E := by
  obtain ⟨dx, c, r, x, hp, hc, hr, _⟩ := cl.ex
  exact ⟨p, y, dx, _, rfl, hp, p, dx, c, r, x, y, C, row, rfl, hp, hc, hr, cl.R.1, .inl ⟨rr, i, j, h, e, row_E q⟩⟩
theorem app_self {T : Txt K mg} {H : Hp} {p : Addr} {C : Cod} {row : List Nat} {st : Int × Int} {Q : VK} {E : XK} (cl : ClS T H p C row st)
    (q : ∀ z H', Same H H' → Dp K H' z (.tuple [.str "row", .int 0, .int 0]) → Q z H') : sp_law_appended T [.ref p, .ref p] H Q E := by
  obtain ⟨dx, c, r, x, hp, hc, hr, _⟩ := cl.ex
  exact ⟨p, .ref p, dx, _, rfl, hp, p, dx, c, r, x, .ref p, C, row, rfl, hp, hc, hr, cl.R.1, .inr (.inl ⟨p, dx, _, rfl, hp, row_E q⟩)⟩
theorem app_great {T : Txt K mg} {H : Hp} {p : Addr} {y : V} {C : Cod} {row more : List Nat} {st : Int × Int} {Q : VK} {E : XK} (cl : ClS T H p C row st) (h : Dp K H y (rowI more)) (R : C.Row more) (hl : 2000 < row.length + more.length)
    (q : ∀ z H', Same H H' → Dp K H' z (.tuple [.str "great", .int 2000]) → Q z H') : sp_law_appended T [.ref p, y] H Q E := by
  obtain ⟨dx, c, r, x, hp, hc, hr, _⟩ := cl.ex
  exact ⟨p, y, dx, _, rfl, hp, p, dx, c, r, x, y, C, row, rfl, hp, hc, hr, cl.R.1, .inr (.inr ⟨more, h, R, fun _ => great_E q, fun h => by omega⟩)⟩
theorem cl_put {T : Txt K mg} {H H1 : Hp} {p dx : Addr} {c r r' x : V} {C : Cod} {row more : List Nat} {st : Int × Int} (O : C.Ok) (hs : C.St st) (R : C.Row row) (Rm : C.Row more) (hl : row.length + more.length ≤ 2000) (hp : H p = some (clO T dx c r x)) (hc : Dp K H c C.dat) (hx : Dp K H x (pairI st)) (s : Same H H1)
    (hr : Dp K H1 r' (rowI (row ++ more))) : ClS T (upd H1 p (clO T dx c r' x)) p C (row ++ more) st := by
  have k := exI_ins (o := clO T dx c r' x) (show H1 p = some (.ins T.C_Clip dx _) from s _ _ hp)
  exact ⟨⟨dx, c, r', x, upd_same, dp_exI k _ _ (dp_same s _ _ hc), dp_exI k _ _ hr, dp_exI k _ _ (dp_same s _ _ hx)⟩, O, ⟨by rw [List.length_append]; exact hl, fun j hj => by
    rcases List.mem_append.mp hj with h | h
    · exact R.lt j h
    · exact Rm.lt j h⟩, hs⟩
theorem app_ok {T : Txt K mg} {H : Hp} {p : Addr} {y : V} {C : Cod} {row more : List Nat} {st : Int × Int} {Q : VK} {E : XK} (cl : ClS T H p C row st) (h : Dp K H y (rowI more)) (R : C.Row more) (hl : row.length + more.length ≤ 2000)
    (q : ∀ H1 dx fs o L, Same H H1 → H1 p = some (.ins T.C_Clip dx fs) → ClS T (upd H1 p o) p C (row ++ more) st → upd H1 p o L = none → Q (.ref L) (upd (upd H1 p o) L (.lst [.ref p]))) : sp_law_appended T [.ref p, y] H Q E := by
  obtain ⟨dx, c, r, x, hp, hc, hr, hx⟩ := cl.ex
  exact ⟨p, y, dx, _, rfl, hp, p, dx, c, r, x, y, C, row, rfl, hp, hc, hr, cl.R.1, .inr (.inr ⟨more, h, R, fun h => by omega, fun _ r' H1 s1 hr' L hL => q H1 dx _ _ L s1 (s1 _ _ hp) (cl_put cl.O cl.St cl.R R hl hp hc hx s1 hr') hL⟩)⟩
/-- a clip, its copy, codes -/
structure Bt (T : Txt K mg) (H : Hp) (m c l : Addr) (n : Nat) (p q : Addr) (C : Cod) (row more : List Nat) (st : Int × Int) (cv rv hv mo : V) : Prop where
  B : Bg T H m c l n p C row st cv rv hv
  tw : ClS T H q C row st
  mr : Dp K H mo (rowI more)
theorem Bt.same {T : Txt K mg} {H H' : Hp} {m c l p q : Addr} {n : Nat} {C : Cod} {row more : List Nat} {st : Int × Int} {cv rv hv mo : V} (h : Bt T H m c l n p q C row more st cv rv hv mo) (s : Same H H') : Bt T H' m c l n p q C row more st cv rv hv mo :=
  ⟨h.B.same s, h.tw.same s, dp_same s _ _ h.mr⟩
theorem Bt.draw {T : Txt K mg} {H H' : Hp} {m c l l' p q : Addr} {n n' : Nat} {C : Cod} {row more : List Nat} {st : Int × Int} {cv rv hv mo : V} (h : Bt T H m c l n p q C row more st cv rv hv mo) (k : Kp m l H l' H') (D : Dr H' m c l' n') : Bt T H' m c l' n' p q C row more st cv rv hv mo :=
  ⟨h.B.draw k D, h.tw.draw k h.B.D, dp_keep (keep_draw k h.B.D) _ _ (noL_row _) h.mr⟩
theorem Bt.ins {T : Txt K mg} {H : Hp} {m c l p q : Addr} {n : Nat} {C : Cod} {row more : List Nat} {st : Int × Int} {cv rv hv mo : V} (h : Bt T H m c l n p q C row more st cv rv hv mo) {z Cz dz : Addr} {fs : List (Str × V)} {o : HO} (hz : H z = some (.ins Cz dz fs)) (n1 : p ≠ z) (n2 : q ≠ z) : Bt T (upd H z o) m c l n p q C row more st cv rv hv mo :=
  ⟨h.B.ins hz n1, h.tw.ins hz n2, dp_exI (exI_ins (o := o) hz) _ _ h.mr⟩
theorem sh_bool (b : Bool) : Sh 0 1921 (.bool b) := by cases b <;> exact ⟨by decide +kernel, rfl, Nat.le_refl _, by decide +kernel⟩
theorem rmul_sp {T : Txt K mg} {H : Hp} {Q : VK} {E : XK} {p : Addr} {C : Cod} {row : List Nat} {st : Int × Int} {t : Nat} (cl : ClS T H p C row st) (ht : t ≤ 2000) (ok : row.length * t ≤ 2000 → ∀ q H1, Same H H1 → H q = none → ClS T H1 q C ((List.replicate t row).flatten) st → Q (.ref q) H1)
    (no : 2000 < row.length * t → OneE T.C_TooGreat "most" H E (.int 2000)) : sp_Clip_rmul T [.ref p, .int (t : Int)] H Q E := mul_sp cl ht ok no
theorem iadd_sp {T : Txt K mg} {H : Hp} {p : Addr} {y : V} {C : Cod} {row more : List Nat} {st : Int × Int} {Q : VK} {E : XK} (cl : ClS T H p C row st) (h : Dp K H y (rowI more)) (R : C.Row more) (hl : row.length + more.length ≤ 2000)
    (q : ∀ H1 dx fs o, Same H H1 → H1 p = some (.ins T.C_Clip dx fs) → ClS T (upd H1 p o) p C (row ++ more) st → Q (.ref p) (upd H1 p o)) : sp_Clip_iadd T [.ref p, y] H Q E := by
  obtain ⟨dx, c, r, x, hp, hc, hr, hx⟩ := cl.ex
  exact ⟨p, dx, c, r, x, y, C, row, more, rfl, hp, hc, hr, h, R, hl, fun r' H1 s1 hr' => q H1 dx _ _ s1 (s1 _ _ hp) (cl_put cl.O cl.St cl.R R hl hp hc hx s1 hr')⟩
/-- the clip has grown -/
structure Bu (T : Txt K mg) (H : Hp) (m c l : Addr) (n : Nat) (p q : Addr) (C : Cod) (row more : List Nat) (st : Int × Int) (cv rv hv mo : V) : Prop where
  D : Dr H m c l n
  cl : ClS T H p C (row ++ more) st
  tw : ClS T H q C row st
  cv : Dp K H cv C.dat
  rv : Dp K H rv (rowI row)
  hv : Dp K H hv (pairI st)
  mr : Dp K H mo (rowI more)
  T : Tabs (TL T) H
theorem Bu.same {T : Txt K mg} {H H' : Hp} {m c l p q : Addr} {n : Nat} {C : Cod} {row more : List Nat} {st : Int × Int} {cv rv hv mo : V} (h : Bu T H m c l n p q C row more st cv rv hv mo) (s : Same H H') : Bu T H' m c l n p q C row more st cv rv hv mo :=
  ⟨h.D.same s, h.cl.same s, h.tw.same s, dp_same s _ _ h.cv, dp_same s _ _ h.rv, dp_same s _ _ h.hv, dp_same s _ _ h.mr, tabs_same h.T s⟩
theorem Bt.put {T : Txt K mg} {H : Hp} {m c l p q dx : Addr} {n : Nat} {fs : List (Str × V)} {o : HO} {C : Cod} {row more : List Nat} {st : Int × Int} {cv rv hv mo : V} (h : Bt T H m c l n p q C row more st cv rv hv mo) (hz : H p = some (.ins T.C_Clip dx fs)) (nq : q ≠ p)
    (cl : ClS T (upd H p o) p C (row ++ more) st) : Bu T (upd H p o) m c l n p q C row more st cv rv hv mo :=
  have e := exI_ins (o := o) hz
  ⟨dr_exI h.B.D e, cl, h.tw.ins hz nq, dp_exI e _ _ h.B.cv, dp_exI e _ _ h.B.rv, dp_exI e _ _ h.B.hv, dp_exI e _ _ h.mr, tabs_insC h.B.T hz⟩
def sp_law_append_right (T : Txt K mg) : Sp := fun vs H Q _ => ∃ (m c l p : Addr) (k : Nat) (cv rv hv : V) (C : Cod) (row : List Nat) (s : Int × Int), vs = [.ref m, .ref p, cv, rv, hv] ∧ Bg T H m c l (k + 20) p C row s cv rv hv ∧ row.length ≤ 60 ∧
  ∀ l' H', Dr H' m c l' k → Tabs (TL T) H' → Q (.bl true) H'
set_option maxHeartbeats 8000000 in
theorem ok_law_append_right (T : Txt K mg) : FnG P w K mg base 17 T.f__law_append_right T.d__law_append_right ["m", "clip", "coder", "row", "here"] (sp_law_append_right T) := by
  refine okG T.F__law_append_right sc_law_append_right (fun vs H Q E h => ?_) (fun cdv A outer s H vs Q E hgd hr h => ?_)
  · obtain ⟨m, c, l, p, k, cv, rv, hv, C, row, s, rfl, _⟩ := h
    rfl
  · obtain ⟨m, c, l, p, k, cv, rv, hv, C, row, st, rfl, B, hrow, q⟩ := h
    refine ⟨_,
(pss_cons (ps_asg (pe_tup (pa_cons (pe_call (ok_law_row T) (hr.mono (by decide)) (by rfl) T.g__law_row T.F__law_row.kp T.b__law_row .nil pass0 (pa_cons (pv 0) (pa_cons (pv 2) (pa_cons pe_int pa_nil)))) (pa_cons (pv 1) (pa_cons (pe_meth0 (pv 1) T.cl_Clip T.me_Clip_copy (ok_Clip_copy T) (hr.mono (by decide)) T.b_Clip_copy .nil pass0) pa_nil)))) (pg_tup (by rfl) (pgs_cons (pg_name (i := 5) sc_law_append_right.nd rfl (Or.inl rfl)) (pgs_cons (pg_name (i := 6) sc_law_append_right.nd rfl (Or.inr rfl)) (pgs_cons (pg_name (i := 7) sc_law_append_right.nd rfl (Or.inl rfl)) pgs_nil)))))
      (pss_cons (ps_set (i := 8) sc_law_append_right.nd rfl (Or.inl rfl) (pe_call (ok_law_next T) (hr.mono (by decide)) (by rfl) T.g__law_next T.F__law_next.kp T.b__law_next .nil pass0 (pa_cons (pv 0) (pa_cons (pe_op op_add (pe_callB (call_len_seq) (by rfl) T.z_len (by decide +kernel) (pa_cons (pv 5) pa_nil)) pe_int) pa_nil))))
      (pss_cons (ps_set (i := 9) sc_law_append_right.nd rfl (Or.inl rfl) (pe_op op_catA (pe_op op_catA (pe_slice sl_tupA (pv 5) po_none (po_some (pv 8))) (pe_tup (pa_cons (pe_ix ix_list (pe_lst (pa_cons (pe_callB (call_len_seq) (by rfl) T.z_len (by decide +kernel) (pa_cons (pe_ix ix_tup (pv 2) pe_int (fun _ _ => rfl)) pa_nil)) (pa_cons (pe_un un_neg pe_int) (pa_cons pe_non (pa_cons pe_bl (pa_cons pe_str (pa_cons (pe_tup (pa_cons pe_int pa_nil)) pa_nil))))))) (pe_call (ok_law_next T) (hr.mono (by decide)) (by rfl) T.g__law_next T.F__law_next.kp T.b__law_next .nil pass0 (pa_cons (pv 0) (pa_cons pe_int pa_nil))) (fun _ _ => rfl)) pa_nil))) (pe_slice sl_tupA (pv 5) (po_some (pv 8)) po_none)))
      (pss_cons (ps_if (PW.pt (pw_or (pt_cmpR (op_neD hr.units) (pe_call (ok_law_appended T) (hr.mono (by decide)) (by rfl) T.g__law_appended T.F__law_appended.kp T.b__law_appended .nil pass0 (pa_cons (pv 1) (pa_cons (pv 9) pa_nil))) (pe_tup (pa_cons pe_str (pa_cons pe_int (pa_cons (pe_op op_add (pv 8) pe_int) pa_nil)))) (nomark _)) (pw_or1 (pt_cmpR (op_neD hr.units) (pe_call (ok_law_appended T) (hr.mono (by decide)) (by rfl) T.g__law_appended T.F__law_appended.kp T.b__law_appended .nil pass0 (pa_cons (pv 1) (pa_cons (pe_callTy call_list_of (by rfl) T.z_list (by decide +kernel) (pa_cons (pv 5) pa_nil)) pa_nil))) (pe_tup (pa_cons pe_str (pa_cons pe_int (pa_cons pe_int pa_nil)))) (nomark _))))) (pss_one (ps_ret pe_bl)) pss_nil)
      (pss_cons (ps_if (PW.pt (pw_or (pt_cmpR (op_neD hr.units) (pe_call (ok_law_appended T) (hr.mono (by decide)) (by rfl) T.g__law_appended T.F__law_appended.kp T.b__law_appended .nil pass0 (pa_cons (pv 1) (pa_cons (pv 1) pa_nil))) (pe_tup (pa_cons pe_str (pa_cons pe_int (pa_cons pe_int pa_nil)))) (nomark _)) (pw_or1 (pt_not (pt_val (My.pe_callG (ok_law_shown T) hgd (hr.mono (by decide)) (by rfl) T.g__law_shown T.F__law_shown.kp T.b__law_shown .nil pass0 (pa_cons (pv 1) (pa_cons (pv 2) (pa_cons (pv 3) (pa_cons (pv 4) pa_nil)))))))))) (pss_one (ps_ret pe_bl)) pss_nil)
      (pss_cons (ps_if (PW.pt (pw_and (pt_cmpR (op_neD hr.units) (pe_call (ok_law_appended T) (hr.mono (by decide)) (by rfl) T.g__law_appended T.F__law_appended.kp T.b__law_appended .nil pass0 (pa_cons (pv 1) (pa_cons (pe_op (My.op_repUK (K := K)) (pe_tup (pa_cons pe_int pa_nil)) (pe_op op_sub pe_int (pe_callB (call_len_seq) (by rfl) T.z_len (by decide +kernel) (pa_cons (pv 3) pa_nil)))) pa_nil))) (pe_tup (pa_cons pe_str (pa_cons pe_int pa_nil))) (nomark _)) (pw_and1 (pt_cmpR (op_neD hr.units) (pv 3) (pe_tup pa_nil) (nomark _))))) (pss_one (ps_ret pe_bl)) pss_nil)
      (pss_cons (ps_par (i := 10) (j := 11) (by rfl) sc_law_append_right.nd rfl rfl (by decide) rfl rfl (pa_cons (pe_op (My.op_binAK (K := K) (op := .Mult) (.inr rfl) T.sf_Clip T.at_Clip_rmul (.inr ⟨_, rfl⟩) T.sb_Clip T.at_Clip_mul T.fn_Clip_mul ((ok_Clip_mul T).raw T.b_Clip_mul .nil) (hr.mono (by decide)) passL) (pv 1) pe_int) (pa_cons (pe_op (My.op_mulAK (K := K) T.sf_Clip T.at_Clip_mul T.fn_Clip_mul T.si_Clip T.sj_Clip T.at_Clip_rmul T.fn_Clip_rmul ((ok_Clip_mul T).raw T.b_Clip_mul .nil) (hr.mono (by decide)) ((ok_Clip_rmul T).raw T.b_Clip_rmul .nil) (hr.mono (by decide)) passL) pe_int (pv 1)) pa_nil)) (by rfl))
      (pss_cons (ps_aug (i := 10) sc_law_append_right.nd rfl (Or.inl rfl) (pe_tup (pa_cons pe_int pa_nil)) (My.ip_ownI T.sf_Clip T.at_Clip_iadd T.fn_Clip_iadd ((ok_Clip_iadd T).raw T.b_Clip_iadd .nil) (hr.mono (by decide)) passL))
      (pss_cons (ps_aug (i := 11) sc_law_append_right.nd rfl (Or.inl rfl) (pe_tup (pa_cons pe_int pa_nil)) (My.ip_ownI T.sf_Clip T.at_Clip_iadd T.fn_Clip_iadd ((ok_Clip_iadd T).raw T.b_Clip_iadd .nil) (hr.mono (by decide)) passL))
      (pss_cons (ps_if (PW.pt (pw_or (pt_not (pt_val (My.pe_callG (ok_law_shown T) hgd (hr.mono (by decide)) (by rfl) T.g__law_shown T.F__law_shown.kp T.b__law_shown .nil pass0 (pa_cons (pv 1) (pa_cons (pv 2) (pa_cons (pv 3) (pa_cons (pv 4) pa_nil))))))) (pw_or1 (pt_not (pt_val (My.pe_callG (ok_law_shown T) hgd (hr.mono (by decide)) (by rfl) T.g__law_shown T.F__law_shown.kp T.b__law_shown .nil pass0 (pa_cons (pv 10) (pa_cons (pv 2) (pa_cons (pe_op op_catA (pv 3) (pe_tup (pa_cons pe_int pa_nil))) (pa_cons (pv 4) pa_nil)))))))))) (pss_one (ps_ret pe_bl)) pss_nil)
      (pss_cons (ps_if (PW.pt (pw_or (pt_cmpR (My.op_neLI T hr.units (hr.mono (by decide)) pass0) (pe_call (ok_law_appended T) (hr.mono (by decide)) (by rfl) T.g__law_appended T.F__law_appended.kp T.b__law_appended .nil pass0 (pa_cons (pv 1) (pa_cons (pv 5) pa_nil))) (pe_lst (pa_cons (pv 6) pa_nil)) (nomark _)) (pw_or1 (pt_not (pt_val (My.pe_callG (ok_law_shown T) hgd (hr.mono (by decide)) (by rfl) T.g__law_shown T.F__law_shown.kp T.b__law_shown .nil pass0 (pa_cons (pv 6) (pa_cons (pv 2) (pa_cons (pe_op op_catA (pv 3) (pv 5)) (pa_cons (pv 4) pa_nil)))))))))) (pss_one (ps_ret pe_bl)) pss_nil)
      (pss_cons (ps_if (pt_cmpR (My.op_neNil hr.units) (pe_lc (own := [("sample", 12)]) rfl sc_law_append_right.nd (pi_tup (pe_meth0 (pv 6) T.cl_Clip T.me_Clip_heard (ok_Clip_heard T) (hr.mono (by decide)) T.b_Clip_heard .nil pass0)) (blkOk_by (own := [("sample", 12)]) (N := ["m", "clip", "coder", "row", "here", "more", "same", "twin", "at", "bad", "one", "two", "sample"]) (sc := defScope s_law_append_right) (by decide +kernel)) (fun _ _ _ _ _ => (pg_name (i := 12) sc_law_append_right.nd rfl (Or.inl rfl))) (fun _ _ _ _ _ => pts_one (pt_cmpR (My.op_notInIK (K := K) T.at_Clip_contains T.fn_Clip_contains ((ok_Clip_contains T).raw T.b_Clip_contains .nil) (hr.mono (by decide)) pass0) (pv 12) (pv 6) (by with_unfolding_all rfl))) (fun _ _ _ _ _ => (pv 12))) (pe_lst pa_nil) (nomark _)) (pss_one (ps_ret pe_bl)) pss_nil)
      (pss_cons (ps_if (PW.pt (pw_or (pt_cmpR op_notBl (pe_meth (pv 6) T.cl_Clip T.me_Clip_begins (ok_Clip_begins T) (hr.mono (by decide)) T.b_Clip_begins .nil passL (pa_cons (pv 7) pa_nil)) pe_bl (nomark _)) (pw_or1 (pt_cmpR op_ne (pe_callB ((call_repr hgd hr.units)) (by rfl) T.z_repr (by decide +kernel) (pa_cons (pe_meth (pv 7) T.cl_Clip T.me_Clip_begins (ok_Clip_begins T) (hr.mono (by decide)) T.b_Clip_begins .nil passL (pa_cons (pv 6) pa_nil)) pa_nil)) (pe_callB ((call_repr hgd hr.units)) (by rfl) T.z_repr (by decide +kernel) (pa_cons (pe_cmpR (op_eqD hr.units) (pv 5) (pe_tup pa_nil) (nomark _)) pa_nil)) (nomark _))))) (pss_one (ps_ret pe_bl)) pss_nil)
      (pss_one (ps_ret (pe_and (My.pe_callG (ok_law_shown T) hgd (hr.mono (by decide)) (by rfl) T.g__law_shown T.F__law_shown.kp T.b__law_shown .nil pass0 (pa_cons (pv 7) (pa_cons (pv 2) (pa_cons (pv 3) (pa_cons (pv 4) pa_nil))))) (pe_one (pe_cmpR (My.op_eqLI T hr.units (hr.mono (by decide)) pass0) (pe_call (ok_law_appended T) (hr.mono (by decide)) (by rfl) T.g__law_appended T.F__law_appended.kp T.b__law_appended .nil pass0 (pa_cons (pv 7) (pa_cons (pe_tup pa_nil) pa_nil))) (pe_lst (pa_cons (pv 7) pa_nil)) (nomark _)))))))))))))))))))
, ?_⟩
    have O := B.cl.O
    have hst := B.cl.St
    have hR := B.cl.R
    have B := B.less (k := k + 7 + 12 + 1) (by omega)
    refine ⟨_, rfl, _, rfl, m, c, l, k + 7, cv, C, 12, rfl, by decide, O, B.cv, B.D, fun mo more l1 H1 kp1 D1 hRm hlm hmo => ?_⟩
    have B1 := B.draw kp1 D1
    obtain ⟨dx, _, _, _, hp, _⟩ := B1.cl.ex
    refine ⟨_, rfl, _, rfl, p, dx, _, rfl, hp, rfl, p, C, row, st, rfl, B1.cl, fun tw H2 s2 hn htw => ?_⟩
    refine ⟨by show 3 ≤ sizeLine; decide, fun tu htu => ⟨tu, _, rfl, upd_tup, rfl, _, _, rfl, _, _, rfl, _, _, rfl, rfl, ?_⟩⟩
    have s3 := same_new (o := .tup [mo, V.ref p, V.ref tw]) htu
    have B3 : Bt T (upd H2 tu (.tup [mo, V.ref p, V.ref tw])) m c l1 (k + 7) p tw C row more st cv rv hv mo := ⟨(B1.same s2).same s3, htw.same s3, dp_same (s2.trans s3) _ _ hmo⟩
    have npq : p ≠ tw := B1.cl.new hn
    generalize upd H2 tu (.tup [mo, V.ref p, V.ref tw]) = H3 at B3
    clear s3 htu htw hn s2 hp B1 hmo kp1 D1 B
    obtain ⟨ma, rfl, hma⟩ := row_at B3.mr
    have lm : (rowV more).length = more.length := List.length_map ..
    dsimp only
    refine st_lit (t := tSeq _ _) [some (.ref m), some (.ref p), some cv, some rv, some hv, some (.ref ma), some (.ref p), some (.ref tw), none, none, none, none, none] rfl ?_
    -- at
    refine ⟨_, rfl, _, rfl, ma, _, rfl, .inr hma, _, _, rfl, rfl, m, c, l1, k + 6, _, rfl, by omega, by omega, B3.B.D, fun at0 l2 H4 a0 a1 kp2 D2 => ?_⟩
    have B4 := B3.draw kp2 D2
    have hma4 : SqT K H4 ma (rowV more) := (keep_draw kp2 B3.B.D).tup hma
    obtain ⟨at', rfl⟩ := Int.eq_ofNat_of_zero_le a0
    have hat : at' ≤ more.length := by rw [lm] at a1; omega
    clear a0 a1 kp2 D2 hma B3
    dsimp only
    refine st_lit (t := tSeq _ _) [some (.ref m), some (.ref p), some cv, some rv, some hv, some (.ref ma), some (.ref p), some (.ref tw), some (.int (at' : Int)), none, none, none, none] rfl ?_
    -- bad
    refine ⟨_, rfl, _, rfl, _, rfl, ?_⟩
    refine sl_takeA (n := at') hma4 fun z1 H5 s5 hz1 => ?_
    have B5 := B4.same s5
    have hma5 := same_tup s5 hma4
    clear hma4 s5 B4
    obtain ⟨ca, sv, mv, ms, rfl, hca, hcs, hcm, hms⟩ := cod_at B5.B.cv
    have hml : ms.length = C.moves.length := by rw [dpAll_len hms, List.length_map]
    refine ⟨_, rfl, ca, _, 3, _, rfl, rfl, hca, atI_nat (j := 3) rfl, mv, ms, rfl, .inr hcm, _, rfl, by show 1 ≤ sizeLine; decide, fun a1 ha1 => ⟨by show 6 ≤ sizeLine; decide, fun W hW => ?_⟩⟩
    dsimp only
    rw [hml]
    have x1 := same_new (o := .tup [V.int 0]) ha1
    have xW := same_new (o := .lst [V.int (C.moves.length : Nat), .int (-1), .non, .bl true, .str "0", .ref a1]) hW
    have B6 := B5.same x1
    have oW := own_mk (xs := [V.int (C.moves.length : Nat), .int (-1), .non, .bl true, .str "0", .ref a1]) B6.B.D hW
    have B7 := B6.same xW
    have g1 : SqT K (upd H5 a1 (.tup [V.int 0])) a1 [V.int 0] := upd_tup
    have g1 := same_tup xW g1
    have hz7 := same_tup (x1.trans xW) hz1
    have hma7 := same_tup (x1.trans xW) hma5
    generalize upd (upd H5 a1 (.tup [V.int 0])) W (.lst [V.int (C.moves.length : Nat), .int (-1), .non, .bl true, .str "0", .ref a1]) = H7 at B7 g1 hz7 hma7 oW
    refine ⟨_, rfl, m, c, l2, k + 5, 6, rfl, by decide, by decide, B7.B.D, fun r l3 H8 b0 b1 kp3 D3 => ?_⟩
    have kk := keep_draw kp3 B7.B.D
    have B8 := B7.draw kp3 D3
    have g8 : SqT K H8 a1 [V.int 0] := kk.tup g1
    have hz8 : SqT K H8 z1 _ := kk.tup hz7
    have hma8 : SqT K H8 ma (rowV more) := kk.tup hma7
    obtain ⟨x, hx, hatW⟩ := pick_v (xs := [V.int (C.moves.length : Nat), .int (-1), .non, .bl true, .str "0", .ref a1]) b0 b1
    refine ⟨W, _, r, _, rfl, rfl, SqL.of (oW.kp kp3).st, hatW, ?_⟩
    obtain ⟨d, hd, hcd⟩ : ∃ d, Dp K H8 x d ∧ codeD C d = false := by
      simp only [List.mem_cons, List.not_mem_nil, or_false] at hx
      rcases hx with rfl | rfl | rfl | rfl | rfl | rfl
      · refine ⟨_, .int _, ?_⟩
        show (decide ((0 : Int) ≤ (C.moves.length : Nat)) && decide (((C.moves.length : Nat) : Int) ≤ ((C.moves.length : Nat) : Int) - 1)) = false
        rw [decide_eq_false (p := ((C.moves.length : Nat) : Int) ≤ ((C.moves.length : Nat) : Int) - 1) (by omega), Bool.and_false]
      · exact ⟨_, .int _, rfl⟩
      · exact ⟨_, .non, rfl⟩
      · exact ⟨_, .bl _, rfl⟩
      · exact ⟨_, .str _, rfl⟩
      · exact ⟨.tuple [.int 0], .tup g8 (.cons (.int _) .nil), rfl⟩
    clear hatW hx g8 kk kp3 D3 b0 b1 B7 oW g1 hz7 hma7 x1 xW B6 hW ha1 hca hcs hcm hms hml B5 hma5 hz1
    refine ⟨by show 1 ≤ sizeLine; decide, fun tt htt => ?_⟩
    have s9 := same_new (o := .tup [x]) htt
    have lz : ((rowV more).take at' ++ [x]).length ≤ 13 := by rw [List.length_append, List.length_take]; show min _ _ + 1 ≤ 13; omega
    refine cat_any (same_tup s9 hz8) upd_tup (by rw [← List.length_append]; exact Nat.le_trans lz (by decide)) fun z2 HA sA hz2 => ?_
    refine ⟨_, rfl, _, rfl, _, rfl, ?_⟩
    have s9A := s9.trans sA
    dsimp only [tNoPart]
    refine sl_dropA (n := at') (same_tup s9A hma8) fun z3 HB sB hz3 => ?_
    refine cat_any (same_tup sB hz2) hz3 (by rw [List.length_drop, lm]; exact Nat.le_trans (show _ + (more.length - at') ≤ 13 + 12 by omega) (by decide)) fun bd HC sC hbd => ?_
    have s8C := (s9A.trans sB).trans sC
    have BC := B8.same s8C
    have hmaC := same_tup s8C hma8
    have dbd : Dp K HC (.ref bd) (.tuple ((more.take at').map (fun k : Nat => PyData.int (k : Int)) ++ [d] ++ (more.drop at').map (fun k : Nat => PyData.int (k : Int)))) := by
      refine .tup hbd (dpAll_app (dpAll_app ?_ (.cons (dp_same s8C _ _ hd) .nil)) ?_)
      · rw [show (rowV more).take at' = rowV (more.take at') from by unfold rowV; rw [List.map_take]]
        exact dpAll_rowV _
      · rw [show (rowV more).drop at' = rowV (more.drop at') from by unfold rowV; rw [List.map_drop]]
        exact dpAll_rowV _
    clear hbd s8C sC hz3 sB s9A hz2 sA lz s9 htt hd hz8 hma8 B8
    refine st_lit (t := tSeq _ _) [some (.ref m), some (.ref p), some (.ref ca), some rv, some hv, some (.ref ma), some (.ref p), some (.ref tw), some (.int (at' : Int)), some (.ref bd), none, none, none] rfl ?_
    -- no rows
    have pl : ((more.take at').map fun k : Nat => PyData.int (k : Int)).length = at' := by rw [List.length_map, List.length_take]; omega
    have hbad : rowRes C (some ((more.take at').map (fun k : Nat => PyData.int (k : Int)) ++ [d] ++ (more.drop at').map (fun k : Nat => PyData.int (k : Int)))) = some (1, (at' : Int) + 1) := by
      rw [List.append_assoc]
      refine rowRes_bad (i := at') ?_
      have h := rowBad_at (C := C) (pre := (more.take at').map fun k : Nat => PyData.int (k : Int)) (d := d) (r := (more.drop at').map fun k : Nat => PyData.int (k : Int)) (codes_in fun k hk => hRm.lt k (List.mem_of_mem_take hk)) (by rw [pl]; omega) hcd
      rw [pl] at h
      exact h
    refine ⟨_, rfl, _, rfl, ?_⟩
    refine app_bad (E := E0) BC.B.cl (show Th K HC (.ref bd) (some _) from dbd) hbad fun z HD sD hz => ?_
    refine ⟨_, rfl, _, _, rfl, rfl, by show 3 ≤ sizeLine; decide, fun t1 ht1 => ?_⟩
    dsimp only
    have sE := same_new (o := .tup [V.str "row", V.int 1, V.int ((at' : Int) + 1)]) ht1
    refine neD_same (dp_same sE _ _ hz) (.tup upd_tup (.cons (.str _) (.cons (.int _) (.cons (.int _) .nil)))) (shaped_row3 _ _) ?_
    have BE := BC.same (sD.trans sE)
    have hmaE := same_tup (sD.trans sE) hmaC
    generalize upd HD t1 (.tup [V.str "row", V.int 1, V.int ((at' : Int) + 1)]) = HE at BE hmaE
    clear sE hz sD ht1 hbad pl dbd BC hmaC
    refine ⟨_, rfl, _, rfl, ma, _, rfl, .inr hmaE, fun LL hLL => ?_⟩
    have sL := same_new (o := .lst (rowV more)) hLL
    refine app_bad (E := E0) (BE.same sL).B.cl (rr := none) (i := 0) (j := 0) ⟨"list", .base (.lst upd_same), rfl⟩ rfl fun z HF sF hz => ?_
    refine ⟨by show 3 ≤ sizeLine; decide, fun t1 ht1 => ?_⟩
    have sG := same_new (o := .tup [V.str "row", V.int 0, V.int 0]) ht1
    refine neD_same (dp_same sG _ _ hz) (.tup upd_tup (.cons (.str _) (.cons (.int _) (.cons (.int _) .nil)))) (shaped_row3 _ _) ?_
    have BG := ((BE.same sL).same sF).same sG
    have hmaG := same_tup ((sL.trans sF).trans sG) hmaE
    generalize upd HF t1 (.tup [V.str "row", V.int 0, V.int 0]) = HG at BG hmaG
    clear sG hz sF ht1 sL hLL BE hmaE
    dsimp only [tNext]
    -- the clip itself
    refine ⟨_, rfl, _, rfl, ?_⟩
    refine app_self (E := E0) BG.B.cl fun z HF sF hz => ?_
    refine ⟨by show 3 ≤ sizeLine; decide, fun t1 ht1 => ?_⟩
    have sG := same_new (o := .tup [V.str "row", V.int 0, V.int 0]) ht1
    refine neD_same (dp_same sG _ _ hz) (.tup upd_tup (.cons (.str _) (.cons (.int _) (.cons (.int _) .nil)))) (shaped_row3 _ _) ?_
    have BH := (BG.same sF).same sG
    have hmaH := same_tup (sF.trans sG) hmaG
    generalize upd HF t1 (.tup [V.str "row", V.int 0, V.int 0]) = HH at BH hmaH
    clear sG hz sF ht1 BG hmaG
    refine ⟨_, rfl, _, rfl, _, rfl, _, rfl, p, .ref ca, rv, hv, C, row, st, rfl, BH.B.cl, BH.B.cv, BH.B.rv, BH.B.hv, by omega, fun HI sI => ⟨_, rfl, iteF ?_⟩⟩
    have BI := BH.same sI
    have hmaI := same_tup sI hmaH
    clear BH hmaH sI
    dsimp only [tNext]
    obtain ⟨ra, rfl, hra⟩ := row_at BI.B.rv
    have lr : (rowV row).length = row.length := List.length_map ..
    refine st_tail (fun σ H' => σ = [some (.ref m), some (.ref p), some (.ref ca), some (.ref ra), some hv, some (.ref ma), some (.ref p), some (.ref tw), some (.int (at' : Int)), some (.ref bd), none, none, none] ∧ Same HI H') ?_ fun tail => ?_
    · rintro σ HJ ⟨rfl, sJ⟩
      have BJ := BI.same sJ
      have hmaJ := same_tup sJ hmaI
      have hraJ := same_tup sJ hra
      clear sJ BI hmaI hra
      obtain ⟨dx, _, _, _, hp, _⟩ := BJ.B.cl.ex
      have f1 : (List.replicate 1 row).flatten = row := by simp
      refine ⟨_, rfl, p, dx, _, rfl, hp, .inr ⟨"int", by unfold sevenT; simp, .base (.int _)⟩, ?_⟩
      refine mul_sp (t := 1) BJ.B.cl (by decide) (fun _ on HK sK hn1 hon => ?_) (fun h => by omega)
      rw [f1] at hon
      have BK := BJ.same sK
      have n1 := BJ.B.cl.new hn1
      have n2 := BJ.tw.new hn1
      refine ⟨_, rfl, p, dx, _, rfl, sK _ _ hp, .inr ⟨.inl ⟨_, rfl⟩, ?_⟩⟩
      refine rmul_sp (t := 1) BK.B.cl (by decide) (fun _ tv HL sL hn3 htv => ?_) (fun h => by omega)
      rw [f1] at htv
      have BL := BK.same sL
      have n3 := BK.B.cl.new hn3
      have n4 := BK.tw.new hn3
      have n5 := hon.new hn3
      have honL := hon.same sL
      have sKL := sK.trans sL
      have hmaL := same_tup sKL hmaJ
      have hraL := same_tup sKL hraJ
      clear sKL sL sK hn1 hn3 hon BK BJ hp hmaJ hraJ
      refine ⟨_, _, rfl, ?_⟩
      refine st_lit (t := tSeq _ _) [some (.ref m), some (.ref p), some (.ref ca), some (.ref ra), some hv, some (.ref ma), some (.ref p), some (.ref tw), some (.int (at' : Int)), some (.ref bd), some (.ref on), some (.ref tv), none] rfl ?_
      have R0 : C.Row [0] := ⟨by decide, fun j hj => by have := O.m1; rw [List.mem_singleton.mp hj]; omega⟩
      have R1 : C.Row [1] := ⟨by decide, fun j hj => by have := O.m1; rw [List.mem_singleton.mp hj]; omega⟩
      obtain ⟨dxo, _, _, _, hpo, _⟩ := honL.ex
      refine ⟨_, rfl, by show 1 ≤ sizeLine; decide, fun t1 ht1 => ?_⟩
      have s1 := same_new (o := .tup [V.int 0]) ht1
      refine ⟨on, dxo, _, rfl, s1 _ _ hpo, ?_⟩
      refine iadd_sp (more := [0]) (honL.same s1) (dp_row (r := [0]) upd_tup) R0 (by show row.length + 1 ≤ 2000; omega) fun HM dz fs o sM hz hon => ?_
      have sA := s1.trans sM
      have BM := (BL.same sA).ins (o := o) hz n1 n2
      have htvM := (htv.same sA).ins (o := o) hz n5.symm
      generalize upd HM on o = HN at BM htvM hon
      clear sA hz sM s1 ht1 hpo honL htv BL
      obtain ⟨dxo, _, _, _, hpo, _⟩ := htvM.ex
      refine ⟨_, rfl, by show 1 ≤ sizeLine; decide, fun t1 ht1 => ?_⟩
      have s1 := same_new (o := .tup [V.int 1]) ht1
      refine ⟨tv, dxo, _, rfl, s1 _ _ hpo, ?_⟩
      refine iadd_sp (more := [1]) (htvM.same s1) (dp_row (r := [1]) upd_tup) R1 (by show row.length + 1 ≤ 2000; omega) fun HO' dz fs o sM hz htv' => ?_
      have sA := s1.trans sM
      have BO := (BM.same sA).ins (o := o) hz n3 n4
      have honO := (hon.same sA).ins (o := o) hz n5
      generalize upd HO' tv o = HP at BO honO
      clear htv' sA hz sM s1 ht1 hpo htvM BM hon n1 n2 n3 n4 n5 hmaL hraL
      dsimp only
      refine st_lit (t := tSeq _ _) [some (.ref m), some (.ref p), some (.ref ca), some (.ref ra), some hv, some (.ref ma), some (.ref p), some (.ref tw), some (.int (at' : Int)), some (.ref bd), some (.ref on), some (.ref tv), none] rfl ?_
      -- shown
      refine ⟨_, rfl, _, rfl, _, rfl, _, rfl, p, .ref ca, .ref ra, hv, C, row, st, rfl, BO.B.cl, BO.B.cv, BO.B.rv, BO.B.hv, by omega, fun HQ sQ => ⟨_, rfl, iteF ?_⟩⟩
      have BQ := BO.same sQ
      have honQ := honO.same sQ
      clear BO honO sQ
      obtain ⟨_, er, hraQ⟩ := row_at BQ.B.rv
      cases er
      refine ⟨_, rfl, _, rfl, _, rfl, by show 1 ≤ sizeLine; decide, fun t1 ht1 => ?_⟩
      have s1 := same_new (o := .tup [V.int 0]) ht1
      refine cat_any (same_tup s1 hraQ) upd_tup (by rw [lr]; exact Nat.le_trans (show row.length + 1 ≤ 61 by omega) (by decide)) fun z1 HR sR hz1 => ?_
      have s1R := s1.trans sR
      have BR := BQ.same s1R
      have dz1 : Dp K HR (.ref z1) (rowI (row ++ [0])) := by
        rw [show rowV row ++ [V.int 0] = rowV (row ++ [0]) from by unfold rowV; rw [List.map_append]; rfl] at hz1
        exact dp_row hz1
      refine ⟨_, rfl, on, .ref ca, .ref z1, hv, C, row ++ [0], st, rfl, honQ.same s1R, BR.B.cv, dz1, BR.B.hv, by rw [List.length_append]; show row.length + 1 ≤ 100; omega, fun HS sS => ⟨_, rfl, iteF ?_⟩⟩
      have BS := BR.same sS
      clear BR dz1 s1R hz1 sR s1 ht1 hraQ BQ honQ sS
      dsimp only [tNext]
      -- more
      refine ⟨_, rfl, _, rfl, ?_⟩
      refine app_ok (E := E0) BS.B.cl BS.mr hRm (by omega) fun HT dxp fs o L sT hz hcl hL => ?_
      have BU := (BS.same sT).put hz npq.symm hcl
      generalize upd HT p o = HU at BU hL hcl
      clear hz sT BS
      refine ⟨_, rfl, by show 1 ≤ sizeLine; decide, fun L2 hL2 => ?_⟩
      have s1 := same_new (o := .lst [V.ref p]) hL
      have s2 := same_new (o := .lst [V.ref p]) hL2
      refine .inr ⟨dcl_one (s2 _ _ upd_same) upd_same ((hcl.same s1).same s2) ((hcl.same s1).same s2), fun HV sV => ⟨_, rfl, iteF ?_⟩⟩
      have BV := ((BU.same s1).same s2).same sV
      clear s1 s2 hL hL2 hcl BU sV
      obtain ⟨_, er, hraV⟩ := row_at BV.rv
      cases er
      obtain ⟨_, em, hmaV⟩ := row_at BV.mr
      cases em
      refine ⟨_, rfl, _, rfl, _, rfl, _, rfl, ?_⟩
      refine cat_any hraV hmaV (by rw [lr, lm]; exact Nat.le_trans (show row.length + more.length ≤ 72 by omega) (by decide)) fun z1 HW sW hz1 => ?_
      have BW := BV.same sW
      have dz1 : Dp K HW (.ref z1) (rowI (row ++ more)) := by
        rw [show rowV row ++ rowV more = rowV (row ++ more) from List.map_append.symm] at hz1
        exact dp_row hz1
      refine ⟨_, rfl, p, .ref ca, .ref z1, hv, C, row ++ more, st, rfl, BW.cl, BW.cv, dz1, BW.hv, by rw [List.length_append]; omega, fun HX sX => ⟨_, rfl, iteF ?_⟩⟩
      have BX := BW.same sX
      clear BW dz1 hz1 sW hraV hmaV BV sX
      dsimp only [tNext]
      -- each is heard
      obtain ⟨dx, _, _, _, hp, _⟩ := BX.cl.ex
      refine ⟨_, rfl, p, dx, _, rfl, hp, rfl, p, C, row ++ more, st, rfl, BX.cl, fun t HY sY ht => ⟨t, rfl, ⟨_, ht⟩, fun D hD => ?_⟩⟩
      have BY := BX.same sY
      have sD := same_new (o := .lst []) hD
      refine lc_tup (K := K) (a := t) (xs := (C.lev st (row ++ more)).map V.int) (fun i H' => Same HY H' ∧ H' D = some (.lst [])) ⟨sD, upd_same⟩ ?_ ?_ ?_
      · exact fun i H' _ h => same_tup h.1 ht
      · rintro i x H' hx ⟨s7, hD7⟩
        have hx' := hx
        rw [List.getElem?_map] at hx'
        obtain ⟨z, hz, rfl⟩ := Option.map_eq_some_iff.mp hx'
        have BZ := BY.same s7
        obtain ⟨dz, _, _, _, hp7, _⟩ := BZ.cl.ex
        refine ⟨rfl, ?_⟩
        refine ⟨_, rfl, _, rfl, p, dz, _, rfl, hp7, p, .int z, C, row ++ more, st, some (.int z), rfl, BZ.cl, .int _, fun H8 s8 => ⟨_, rfl, ?_⟩⟩
        have e : inO (some (.int z)) (C.lev st (row ++ more)) = true := List.any_eq_true.mpr ⟨z, List.mem_of_getElem? hz, beq_self_eq_true z⟩
        rw [e]
        exact ⟨_, rfl, iteF ⟨s7.trans s8, s8 _ _ hD7⟩⟩
      · rintro H' ⟨s7, hD7⟩
        refine ⟨by show 0 ≤ sizeLine; decide, fun nl hnl => ⟨D, nl, [], rfl, rfl, SqL.of (same_new hnl _ _ hD7), SqL.of upd_same, _, rfl, ?_⟩⟩
        refine iteF ?_
        have Ba := BY.same (s7.trans (same_new (o := .lst []) hnl))
        generalize upd H' nl (.lst []) = Ha at Ba
        clear hnl hD7 s7 sD hD BY ht sY hp BX
        dsimp only [tNext]
        -- beginnings
        obtain ⟨dx, _, _, _, hp, _⟩ := Ba.cl.ex
        refine ⟨_, rfl, p, dx, _, rfl, hp, rfl, _, rfl, p, .ref tw, C, row ++ more, st, rfl, Ba.cl, .inr ⟨tw, C, row, st, rfl, Ba.tw, fun b Hb sb hb => ?_⟩⟩
        obtain rfl : b = true := hb.mpr ⟨rfl, rfl, List.take_left⟩
        have Bb := Ba.same sb
        clear hb sb hp Ba
        refine ⟨_, _, rfl, rfl, _, rfl, iteNS rfl ?_⟩
        obtain ⟨dt, _, _, _, hpt, _⟩ := Bb.tw.ex
        refine ⟨_, rfl, tw, dt, _, rfl, hpt, rfl, _, rfl, tw, .ref p, C, row, st, rfl, Bb.tw, .inr ⟨p, C, row ++ more, st, rfl, Bb.cl, fun b Hc sc hb => ?_⟩⟩
        obtain rfl : b = decide (more = []) := by
          rw [Bool.eq_iff_iff, hb, decide_eq_true_eq, List.take_of_length_le (by rw [List.length_append]; omega)]
          exact ⟨fun h => List.append_cancel_left (h.2.2.symm.trans (List.append_nil row).symm), fun h => ⟨rfl, rfl, by rw [h, List.append_nil]⟩⟩
        have Bc := Bb.same sc
        clear hb sc hpt Bb
        have shb := sh_bool (decide (more = []))
        refine ⟨_, _, rfl, .bl _, shb.sh, shb.nd, Nat.le_trans shb.dp (by decide), sz_line (Nat.le_trans shb.le (by decide)), _, rfl, by show 0 ≤ sizeLine; decide, fun t1 ht1 => ?_⟩
        have s1 := same_new (o := .tup []) ht1
        refine ⟨rowI more, rowI [], dp_same s1 _ _ Bc.mr, dp_row (r := []) upd_tup, shaped_rowC _, shaped_rowC _, ?_⟩
        rw [eqv_rowC]
        refine ⟨_, _, rfl, .bl _, shb.sh, shb.nd, Nat.le_trans shb.dp (by decide), sz_line (Nat.le_trans shb.le (by decide)), rfl, _, rfl, iteNS rfl ?_⟩
        have Bd := Bc.same s1
        generalize upd Hc t1 (.tup []) = Hd at Bd
        clear s1 ht1 Bc
        dsimp only [tNext]
        -- the twin
        refine ⟨_, rfl, _, rfl, _, rfl, _, rfl, tw, .ref ca, .ref ra, hv, C, row, st, rfl, Bd.tw, Bd.cv, Bd.rv, Bd.hv, by omega, fun He se => ⟨_, rfl, iteT ?_⟩⟩
        have Be := Bd.same se
        clear se Bd
        refine ⟨_, rfl, by show 0 ≤ sizeLine; decide, fun t1 ht1 => ?_⟩
        have s1 := same_new (o := .tup []) ht1
        refine app_ok (E := E0) (more := []) (Be.tw.same s1) (dp_row (r := []) upd_tup) ⟨Nat.zero_le _, nofun⟩ (by show row.length + 0 ≤ 2000; omega) fun HT dxp fs o L sT hz hcl hL => ?_
        refine ⟨_, rfl, by show 1 ≤ sizeLine; decide, fun L2 hL2 => ?_⟩
        have s2 := same_new (o := .lst [V.ref tw]) hL
        have s3 := same_new (o := .lst [V.ref tw]) hL2
        refine .inr ⟨dcl_one (s3 _ _ upd_same) upd_same ((hcl.same s2).same s3) ((hcl.same s2).same s3), fun HV sV => ?_⟩
        have sF := (s2.trans s3).trans sV
        have Bf := Be.same (s1.trans sT)
        exact q _ _ (((dr_exI Bf.D (exI_ins (o := o) hz)).same sF).less (by omega)) (tabs_same (tabs_insC Bf.T hz) sF)
    · refine ⟨_, rfl, by show 1 ≤ sizeLine; decide, fun t0 ht0 => ?_⟩
      have s0 := same_new (o := .tup [V.int 0]) ht0
      refine ⟨_, rfl, ra, _, rfl, .inr (same_tup s0 hra), _, _, rfl, rfl, t0, 2001 - row.length, .int 0, rfl, by rw [lr]; exact congrArg V.int (by omega), upd_tup, by omega, by omega, fun zs HJ sJ hzs => ?_⟩
      have hzs' : SqT K HJ zs (List.replicate (2001 - row.length) (.int ((0 : Nat) : Int))) := hzs
      have BJ := BI.same (s0.trans sJ)
      have dzs : Dp K HJ (.ref zs) (rowI (List.replicate (2001 - row.length) 0)) := by
        rw [show List.replicate (2001 - row.length) (V.int ((0 : Nat) : Int)) = rowV (List.replicate (2001 - row.length) 0) from by unfold rowV; rw [List.map_replicate]] at hzs'
        exact dp_row hzs'
      by_cases hr0 : row = []
      · subst hr0
        have e : rowI (List.replicate (2001 - ([] : List Nat).length) 0) = .tuple (List.replicate 2000 (.int 0) ++ .int 0 :: []) := by
          unfold rowI
          rw [List.map_replicate]
          rfl
        rw [e] at dzs
        refine app_bad (E := E0) BJ.B.cl (show Th K HJ (.ref zs) (some _) from dzs) (rowRes_bad (rowBad_long (fun d hd => by rw [List.eq_of_mem_replicate hd]; exact codeD_in (k := 0) (by have := O.m1; omega)) (by rw [List.length_replicate]))) fun z HK sK hz => ?_
        refine ⟨by show 2 ≤ sizeLine; decide, fun t1 ht1 => ?_⟩
        have sG := same_new (o := .tup [V.str "great", V.int 2000]) ht1
        refine ⟨_, .tuple [.str "great", .int 2000], dp_same sG _ _ hz, .tup upd_tup (.cons (.str _) (.cons (.int _) .nil)), shaped_row3 _ _, by decide +kernel, _, rfl, ?_⟩
        refine iteT ?_
        refine ⟨_, rfl, by show 0 ≤ sizeLine; decide, fun t2 ht2 => ?_⟩
        have sN := same_new (o := .tup []) ht2
        refine neD_same (d := rowI []) (dp_same (((s0.trans sJ).trans sK).trans (sG.trans sN)) _ _ BI.B.rv) (dp_row (r := []) upd_tup) (shaped_rowC _) ?_
        exact tail _ _ ⟨rfl, ((s0.trans sJ).trans sK).trans (sG.trans sN)⟩
      · have hpos : 0 < row.length := List.length_pos_iff.mpr hr0
        refine app_great (E := E0) BJ.B.cl dzs ⟨by rw [List.length_replicate]; show 2001 - _ ≤ 2000; omega, fun j hj => by rw [List.eq_of_mem_replicate hj]; have := O.m1; omega⟩ (by rw [List.length_replicate]; omega) fun z HK sK hz => ?_
        refine ⟨by show 2 ≤ sizeLine; decide, fun t1 ht1 => ?_⟩
        have sG := same_new (o := .tup [V.str "great", V.int 2000]) ht1
        refine neD_same (dp_same sG _ _ hz) (.tup upd_tup (.cons (.str _) (.cons (.int _) .nil))) (by decide +kernel) ?_
        exact tail _ _ ⟨rfl, ((s0.trans sJ).trans sK).trans sG⟩
end
end My

set_option pp.maxSteps 600
namespace My
open PySem PySem.Spec PyProof.Rows L2 LamX
def fulK : Cod := ⟨-1, 1, [1], [(8, 0), (-8, 0)], 0⟩
theorem ful_ok : fulK.Ok := ⟨by decide, by decide, by decide, by decide, by decide, by decide, by decide, by decide, by decide, by decide, .inl rfl⟩
theorem ful_St : fulK.St (0, 0) := ⟨by decide, by decide, Int.le_refl _, by show (0 : Int) < 1; decide⟩
theorem ful_lev1 : ∀ n : Nat, fulK.lev (1, 0) (List.replicate n 0) = List.replicate n 1
  | 0 => rfl
  | n + 1 => by
    rw [List.replicate_succ, List.replicate_succ]
    show (fulK.led (1, 0) 0).1 :: fulK.lev (fulK.led (1, 0) 0) (List.replicate n 0) = _
    rw [show fulK.led (1, 0) 0 = (1, 0) from by decide, ful_lev1 n]
theorem ful_lev (n : Nat) : fulK.lev (0, 0) (List.replicate (n + 1) 0) = List.replicate (n + 1) 1 := by
  rw [List.replicate_succ, List.replicate_succ]
  show (fulK.led (0, 0) 0).1 :: fulK.lev (fulK.led (0, 0) 0) (List.replicate n 0) = _
  rw [show fulK.led (0, 0) 0 = (1, 0) from by decide, ful_lev1 n]
section
variable {P : Program} {w : World} {K : PySem.W.Frag} {mg : Str → Option Value} {base : Heap}
theorem len_ok {T : Txt K mg} {H : Hp} {p : Addr} {C : Cod} {row : List Nat} {s : Int × Int} {Q : VK} {E : XK} {n : Int} (h : ClS T H p C row s) (e : (row.length : Int) = n) (hn : 0 ≤ n ∧ n < 100000) (q : Q (.int n) H) : rLenI T.C_Clip (fun vs H Q E => sp_Clip_len T (vs ++ []) H Q E) E [.ref p] H Q := by
  obtain ⟨dx, _, _, _, h1, _⟩ := h.ex
  exact ⟨p, dx, _, rfl, h1, p, C, row, s, rfl, h, n, by rw [e], hn.1, by omega, q⟩
def sp_law (K : PySem.W.Frag) (Ps : List Addr) : Sp := fun vs H Q _ => ∃ (a : Addr) (ns : List Int), vs = [.ref a] ∧ SqL K H a (ns.map V.int) ∧ ns.length ≤ 63 ∧ (∀ P ∈ Ps, H P = some (.tbl #[])) ∧ ∀ H', Q (.bl true) H'
set_option maxHeartbeats 8000000 in
theorem ok_law (T : Txt K mg) (TB_law_times_right : TabB base mg T.c__law_times_right T.P__law_times_right) (TB : TabB base mg T.c_law T.P_law) :
    FnG P w K mg base 18 T.f_law T.d_law ["script"] (sp_law K [T.P__law_times_right, T.P_law]) := by
  refine okGc T.F_law T.cd_law sc_law (fun vs H Q E h => ?_) (fun A outer s H vs Q E hgd hr h => ?_)
  · obtain ⟨a, ns, rfl, _⟩ := h
    rfl
  · obtain ⟨a, ns, rfl, hS, hl, hP, q⟩ := h
    refine ⟨_,
(pss_cons (ps_set (i := 1) sc_law.nd rfl (Or.inl rfl) (pe_call (ok_law_begun T) (hr.mono (by decide)) (by rfl) T.g__law_begun T.F__law_begun.kp T.b__law_begun .nil pass0 (pa_cons (pv 0) pa_nil)))
      (pss_cons (ps_for PassesOwn.never rfl (pi_range1 (by rfl) T.z_range (pa_cons (pe_op op_add pe_int (pe_callB (call_min2 rfl) (by rfl) T.z_min (by decide +kernel) (pa_cons (pe_callB (call_len_seq) (by rfl) T.z_len (by decide +kernel) (pa_cons (pv 0) pa_nil)) (pa_cons pe_int pa_nil)))) pa_nil)) (pg_name (i := 2) sc_law.nd rfl (Or.inl rfl)) (pss_cons (ps_set (i := 3) sc_law.nd rfl (Or.inl rfl) (pe_call (ok_law_coder T) (hr.mono (by decide)) (by rfl) T.g__law_coder T.F__law_coder.kp T.b__law_coder .nil pass0 (pa_cons (pv 1) (pa_cons (pe_ix ix_list (pe_lst (pa_cons pe_int (pa_cons pe_int (pa_cons pe_int pa_nil)))) (pe_call (ok_law_next T) (hr.mono (by decide)) (by rfl) T.g__law_next T.F__law_next.kp T.b__law_next .nil pass0 (pa_cons (pv 1) (pa_cons pe_int pa_nil))) (fun _ _ => rfl)) (pa_cons pe_int (pa_cons pe_int pa_nil))))))
      (pss_cons (ps_par (i := 4) (j := 5) (by rfl) sc_law.nd rfl rfl (by decide) rfl rfl (pa_cons (pe_call (ok_law_some_state T) (hr.mono (by decide)) (by rfl) T.g__law_some_state T.F__law_some_state.kp T.b__law_some_state .nil pass0 (pa_cons (pv 1) (pa_cons (pv 3) pa_nil))) (pa_cons (pe_call (ok_law_row T) (hr.mono (by decide)) (by rfl) T.g__law_row T.F__law_row.kp T.b__law_row .nil pass0 (pa_cons (pv 1) (pa_cons (pv 3) (pa_cons (pe_ix ix_list (pe_lst (pa_cons pe_int (pa_cons pe_int pa_nil))) (pe_call (ok_law_next T) (hr.mono (by decide)) (by rfl) T.g__law_next T.F__law_next.kp T.b__law_next .nil pass0 (pa_cons (pv 1) (pa_cons pe_int pa_nil))) (fun _ _ => rfl)) pa_nil)))) pa_nil)) (by rfl))
      (pss_cons (ps_set (i := 6) sc_law.nd rfl (Or.inl rfl) (pe_makeK T.mk_Clip (ok_Clip_init T) (hr.mono (by decide)) (by rfl) T.g_Clip T.k_Clip_init passL (pa_cons (pv 3) (pa_cons (pv 5) pa_nil)) (pk_cons (pv 4) pk_nil)))
      (pss_cons (ps_if (PW.pt (pw_or (pt_not (pt_val (My.pe_callG (ok_law_times_right T TB_law_times_right) hgd (hr.mono (by decide)) (by rfl) T.g__law_times_right T.F__law_times_right.kp T.b__law_times_right .nil pass0 (pa_cons (pv 1) (pa_cons (pv 6) (pa_cons (pv 3) (pa_cons (pv 5) (pa_cons (pv 4) pa_nil)))))))) (pw_or1 (pt_not (pt_val (pe_call (ok_law_sample_right T) (hr.mono (by decide)) (by rfl) T.g__law_sample_right T.F__law_sample_right.kp T.b__law_sample_right .nil pass0 (pa_cons (pv 1) (pa_cons (pv 6) (pa_cons (pv 3) pa_nil))))))))) (pss_one (ps_ret pe_bl)) pss_nil)
      (pss_one (ps_if (pt_not (pt_val (My.pe_callG (ok_law_append_right T) hgd (hr.mono (by decide)) (by rfl) T.g__law_append_right T.F__law_append_right.kp T.b__law_append_right .nil pass0 (pa_cons (pv 1) (pa_cons (pv 6) (pa_cons (pv 3) (pa_cons (pv 5) (pa_cons (pv 4) pa_nil)))))))) (pss_one (ps_ret pe_bl)) pss_nil)))))))
      (pss_cons (ps_set (i := 7) sc_law.nd rfl (Or.inr rfl) (pe_make T.mk_Clip (ok_Clip_init T) (hr.mono (by decide)) (by rfl) T.g_Clip T.b_Clip_init T.ev_Clip_init passL (pa_cons (pe_tup (pa_cons (pe_un un_neg pe_int) (pa_cons pe_int (pa_cons (pe_tup (pa_cons pe_int pa_nil)) (pa_cons (pe_tup (pa_cons (pe_tup (pa_cons pe_int (pa_cons pe_int pa_nil))) (pa_cons (pe_tup (pa_cons (pe_un un_neg pe_int) (pa_cons pe_int pa_nil))) pa_nil))) (pa_cons pe_int pa_nil)))))) (pa_cons (pe_op My.op_repB (pe_tup (pa_cons pe_int pa_nil)) pe_int) pa_nil))))
      (pss_cons (ps_if (PW.pt (pw_or (pt_cmpR (op_neD hr.units) (pe_call (ok_law_appended T) (hr.mono (by decide)) (by rfl) T.g__law_appended T.F__law_appended.kp T.b__law_appended .nil pass0 (pa_cons (pv 7) (pa_cons (pe_tup (pa_cons pe_int pa_nil)) pa_nil))) (pe_tup (pa_cons pe_str (pa_cons pe_int pa_nil))) (nomark _)) (pw_or (pt_cmpR op_ne (pe_callB (My.call_lenI T.at_Clip_len T.fn_Clip_len ((ok_Clip_len T).raw T.b_Clip_len .nil) (hr.mono (by decide)) pass0) (by rfl) T.z_len (by decide +kernel) (pa_cons (pv 7) pa_nil)) pe_int (nomark _)) (pw_or1 (pt_cmpR op_ne (pe_callB (My.call_lenI T.at_Clip_len T.fn_Clip_len ((ok_Clip_len T).raw T.b_Clip_len .nil) (hr.mono (by decide)) pass0) (by rfl) T.z_len (by decide +kernel) (pa_cons (pe_op (My.op_binAK (K := K) (op := .Mult) (.inr rfl) T.sf_Clip T.at_Clip_rmul (.inr ⟨_, rfl⟩) T.sb_Clip T.at_Clip_mul T.fn_Clip_mul ((ok_Clip_mul T).raw T.b_Clip_mul .nil) (hr.mono (by decide)) passL) (pv 7) pe_int) pa_nil)) pe_int (nomark _)))))) (pss_one (ps_ret pe_bl)) pss_nil)
      (pss_one (ps_ret (pe_and (pe_cmpR (op_eqD hr.units) (My.pe_outcomeL (k := 12) T (TL T) TB rfl (.tail _ (.head _)) (tl_ok T) (by rfl) (hr.mono (by decide)) (lamS_by (by show lamSB (defScope s_law) _ = true; decide +kernel)) rfl (fun _ _ _ _ _ => rfl) (fun A outer s H E f c' hr => (pe_op (My.op_binAK (K := K) (op := .Mult) (.inr rfl) T.sf_Clip T.at_Clip_rmul (.inr ⟨_, rfl⟩) T.sb_Clip T.at_Clip_mul T.fn_Clip_mul ((ok_Clip_mul T).raw T.b_Clip_mul .nil) (hr.mono (by decide)) (passes_call (takes_of rfl rfl rfl rfl) (fun _ _ _ _ h => h))) (pv 7) pe_int))) (pe_tup (pa_cons pe_str (pa_cons pe_int pa_nil))) (nomark _)) (pe_and (pe_cmpR op_eq (pe_callB (My.call_lenI T.at_Clip_len T.fn_Clip_len ((ok_Clip_len T).raw T.b_Clip_len .nil) (hr.mono (by decide)) pass0) (by rfl) T.z_len (by decide +kernel) (pa_cons (pe_op (My.op_binAK (K := K) (op := .Mult) (.inr rfl) T.sf_Clip T.at_Clip_rmul (.inr ⟨_, rfl⟩) T.sb_Clip T.at_Clip_mul T.fn_Clip_mul ((ok_Clip_mul T).raw T.b_Clip_mul .nil) (hr.mono (by decide)) passL) (pv 7) pe_int) pa_nil)) pe_int (nomark _)) (pe_and (pe_cmpR (My.op_notInIK (K := K) T.at_Clip_contains T.fn_Clip_contains ((ok_Clip_contains T).raw T.b_Clip_contains .nil) (hr.mono (by decide)) pass0) (pe_un un_neg pe_int) (pv 7) (by with_unfolding_all rfl)) (pe_one (pe_cmpR (My.op_inIK (K := K) T.at_Clip_contains T.fn_Clip_contains ((ok_Clip_contains T).raw T.b_Clip_contains .nil) (hr.mono (by decide)) pass0) pe_int (pv 7) (by with_unfolding_all rfl))))))))))))
, ?_⟩
    refine ⟨.ref a, rfl, a, ns, rfl, hS, hl, fun m c l H1 s1 hm hc hl0 D1 => ?_⟩
    have hS1 := s1.seq hS
    have T1 : Tabs (TL T) H1 := by
      intro q hq
      unfold TL at hq
      simp only [List.mem_cons, List.not_mem_nil, or_false] at hq
      rcases hq with e | e <;> subst e
      · exact TabS.nil (s1 _ _ (hP _ (by simp)))
      · exact TabS.nil (s1 _ _ (hP _ (by simp)))
    refine ⟨_, rfl, a, _, rfl, .inl hS1, ?_⟩
    refine ⟨_, 6, rfl, 2, _, rfl, rfl, _, rfl, ?_, ?_, ?_⟩
    · rw [List.length_map]; split <;> omega
    · rw [List.length_map]; split <;> omega
    have hn : (2 + if (6 : Int) < ((ns.map V.int).length : Int) then 6 else ((ns.map V.int).length : Int)).toNat ≤ 8 := by
      rw [List.length_map]
      split <;> omega
    refine for_range (lo := 0) (n := (2 + if (6 : Int) < ((ns.map V.int).length : Int) then 6 else ((ns.map V.int).length : Int)).toNat)
      (fun i σ H' => ∃ x2 x3 x4 x5 x6 l', σ = [some (.ref a), some (.ref m), x2, x3, x4, x5, x6, none] ∧ Dr H' m c l' (900000 - 2000 * i) ∧ Tabs (TL T) H') ⟨none, none, none, none, none, l, rfl, D1, T1⟩ ?_ ?_
    · rintro i σ H2 hi ⟨x2, x3, x4, x5, x6, l2, rfl, D2, T2⟩
      have hi5 : i < 8 := by omega
      -- coder
      refine ⟨_, rfl, by show 3 ≤ sizeLine; decide, fun W hW => ?_⟩
      have D2 : Dr H2 m c l2 (900000 - 2000 * (i + 1) + 600 + 60 + 1) := D2.less (by omega)
      have oW := own_mk (xs := ([2, 40, 3000] : List Int).map V.int) D2 hW
      have sW := same_new (o := .lst (([2, 40, 3000] : List Int).map V.int)) hW
      refine ⟨_, rfl, m, c, l2, 900000 - 2000 * (i + 1) + 600 + 60, 3, rfl, by decide, by decide, D2.new hW, fun r3 l3 H3 p0 p1 kp3 D3 => ?_⟩
      have T3 := tabs_kp (tabs_same T2 sW) kp3 (D2.new hW)
      obtain ⟨wide, hwide, hat3⟩ := pick_int (xs := [2, 40, 3000]) p0 p1
      have hwide : 1 ≤ wide ∧ wide ≤ 3000 := by
        simp only [List.mem_cons, List.not_mem_nil, or_false] at hwide
        omega
      refine ⟨W, _, r3, _, rfl, rfl, SqL.of (oW.kp kp3).st, hat3, m, c, l3, 900000 - 2000 * (i + 1) + 600, wide, 3, 5, rfl, ⟨by omega, by omega⟩, by decide, by decide, D3, fun cv C l4 H4 kp4 D4 hsm hcv => ?_⟩
      have T4 := tabs_kp T3 kp4 D3
      have O := hsm.ok (by omega) (by decide) (by decide)
      clear oW hat3 hwide sW kp3 kp4 D3 T3 T2 D2 hW hsm
      dsimp only
      refine st_lit (t := tSeq _ _) [some (.ref a), some (.ref m), some (.int (0 + (i : Nat))), some cv, x4, x5, x6, none] rfl ?_
      have D4 : Dr H4 m c l4 (900000 - 2000 * (i + 1) + 500 + 2) := D4.less (by omega)
      refine ⟨_, rfl, _, rfl, m, c, l4, 900000 - 2000 * (i + 1) + 500, cv, C, rfl, O, hcv, D4, fun hv st l5 H5 kp5 D5 hst hhv => ?_⟩
      have hcv5 := dp_keep (keep_draw kp5 D4) _ _ (noL_cod _) hcv
      have T5 := tabs_kp T4 kp5 D4
      clear kp5 D4 T4 hcv
      refine ⟨_, rfl, _, rfl, by show 2 ≤ sizeLine; decide, fun W hW => ?_⟩
      have D5 : Dr H5 m c l5 (900000 - 2000 * (i + 1) + 400 + 1) := D5.less (by omega)
      have oW := own_mk (xs := ([3, 30] : List Int).map V.int) D5 hW
      have sW := same_new (o := .lst (([3, 30] : List Int).map V.int)) hW
      refine ⟨_, rfl, m, c, l5, 900000 - 2000 * (i + 1) + 400, 2, rfl, by decide, by decide, D5.new hW, fun r6 l6 H6 p0 p1 kp6 D6 => ?_⟩
      have kk6 := keep_draw kp6 (D5.new hW)
      have T6 := tabs_kp (tabs_same T5 sW) kp6 (D5.new hW)
      have hcv6 := dp_keep kk6 _ _ (noL_cod _) (dp_same sW _ _ hcv5)
      have hhv6 := dp_keep kk6 _ _ (noL_pair st) (dp_same sW _ _ hhv)
      obtain ⟨mz, hmz, hat6⟩ := pick_int (xs := [3, 30]) p0 p1
      obtain ⟨many, rfl, hmany⟩ : ∃ n : Nat, mz = (n : Int) ∧ n ≤ 30 := by
        simp only [List.mem_cons, List.not_mem_nil, or_false] at hmz
        rcases hmz with rfl | rfl
        · exact ⟨3, rfl, by decide⟩
        · exact ⟨30, rfl, by decide⟩
      have D6 : Dr H6 m c l6 (900000 - 2000 * (i + 1) + 300 + many + 1) := D6.less (by omega)
      refine ⟨W, _, r6, _, rfl, rfl, SqL.of (oW.kp kp6).st, hat6, m, c, l6, 900000 - 2000 * (i + 1) + 300, cv, C, many, rfl, by omega, O, hcv6, D6, fun rv row l7 H7 kp7 D7 hR hlen hrv => ?_⟩
      have kk7 := keep_draw kp7 D6
      have T7 := tabs_kp T6 kp7 D6
      have hcv7 := dp_keep kk7 _ _ (noL_cod _) hcv6
      have hhv7 := dp_keep kk7 _ _ (noL_pair st) hhv6
      clear kk6 kk7 kp6 kp7 D6 T6 hcv6 hhv6 hat6 hmz p0 p1 oW sW hW D5 T5 hcv5 hhv
      refine ⟨_, _, rfl, ?_⟩
      dsimp only
      refine st_lit (t := tSeq _ _) [some (.ref a), some (.ref m), some (.int (0 + (i : Nat))), some cv, some hv, some rv, x6, none] rfl ?_
      refine ⟨_, rfl, _, rfl, _, rfl, rfl, rfl, fun z dz hz hdz ne => ?_⟩
      refine clip_mk (T := T) hz hdz O hcv7 hrv hR hhv7 hst fun H8 s8 hcl => ⟨rfl, ?_⟩
      have B8 : Bg T H8 m c l7 (900000 - 2000 * (i + 1) + 300) z C row st cv rv hv := ⟨D7.same s8, hcl, dp_same s8 _ _ hcv7, dp_same s8 _ _ hrv, dp_same s8 _ _ hhv7, tabs_same T7 s8⟩
      clear D7 hcl hcv7 hrv hhv7 T7 s8 hz hdz ne
      dsimp only
      refine st_lit (t := tSeq _ _) [some (.ref a), some (.ref m), some (.int (0 + (i : Nat))), some cv, some hv, some rv, some (.ref z), none] rfl ?_
      refine ⟨_, rfl, _, rfl, _, rfl, _, rfl, _, rfl, m, c, l7, z, 900000 - 2000 * (i + 1) + 200 + 1, cv, rv, hv, C, row, st, rfl, B8.less (by omega), fun l9 H9 B9 => ⟨_, rfl, iteF ?_⟩⟩
      clear B8
      refine ⟨_, rfl, _, rfl, _, rfl, m, c, l9, z, 900000 - 2000 * (i + 1) + 200, cv, rv, hv, C, row, st, rfl, B9, fun lA HA BA => ⟨_, rfl, iteF ?_⟩⟩
      clear B9
      dsimp only [tNext]
      refine ⟨_, rfl, _, rfl, _, rfl, _, rfl, _, rfl, m, c, lA, z, 900000 - 2000 * (i + 1), cv, rv, hv, C, row, st, rfl, BA.less (by omega), by omega, fun lB HB DB TB' => ⟨_, rfl, iteF ?_⟩⟩
      exact ⟨_, _, _, _, _, lB, rfl, DB, TB'⟩
    · rintro σ H' ⟨x2, x3, x4, x5, x6, l', rfl, D', T'⟩
      dsimp only
      refine ⟨_, rfl, ?_⟩
      refine ⟨by show 1 ≤ sizeLine; decide, fun fus h_fus => ?_⟩
      have s_fus := same_new (o := .tup [V.int 1]) h_fus
      have t_fus : SqT K (upd H' fus (.tup [V.int 1])) fus [V.int 1] := upd_tup
      generalize upd H' fus (.tup [V.int 1]) = fuH1 at s_fus t_fus
      clear h_fus
      refine ⟨by show 2 ≤ sizeLine; decide, fun fum0 h_fum0 => ?_⟩
      have s_fum0 := same_new (o := .tup [V.int 8, V.int 0]) h_fum0
      have t_fum0 : SqT K (upd fuH1 fum0 (.tup [V.int 8, V.int 0])) fum0 [V.int 8, V.int 0] := upd_tup
      generalize upd fuH1 fum0 (.tup [V.int 8, V.int 0]) = fuH2 at s_fum0 t_fum0
      clear h_fum0
      refine ⟨_, rfl, ?_⟩
      refine ⟨by show 2 ≤ sizeLine; decide, fun fum1 h_fum1 => ?_⟩
      have s_fum1 := same_new (o := .tup [V.int (-8), V.int 0]) h_fum1
      have t_fum1 : SqT K (upd fuH2 fum1 (.tup [V.int (-8), V.int 0])) fum1 [V.int (-8), V.int 0] := upd_tup
      generalize upd fuH2 fum1 (.tup [V.int (-8), V.int 0]) = fuH3 at s_fum1 t_fum1
      clear h_fum1
      refine ⟨by show 2 ≤ sizeLine; decide, fun fum h_fum => ?_⟩
      have s_fum := same_new (o := .tup [V.ref fum0, V.ref fum1]) h_fum
      have t_fum : SqT K (upd fuH3 fum (.tup [V.ref fum0, V.ref fum1])) fum [V.ref fum0, V.ref fum1] := upd_tup
      generalize upd fuH3 fum (.tup [V.ref fum0, V.ref fum1]) = fuH4 at s_fum t_fum
      clear h_fum
      refine ⟨by show 5 ≤ sizeLine; decide, fun fu h_fu => ?_⟩
      have s_fu := same_new (o := .tup [V.int (-1), V.int 1, V.ref fus, V.ref fum, V.int 0]) h_fu
      have t_fu : SqT K (upd fuH4 fu (.tup [V.int (-1), V.int 1, V.ref fus, V.ref fum, V.int 0])) fu [V.int (-1), V.int 1, V.ref fus, V.ref fum, V.int 0] := upd_tup
      generalize upd fuH4 fu (.tup [V.int (-1), V.int 1, V.ref fus, V.ref fum, V.int 0]) = HA at s_fu t_fu
      clear h_fu
      have d_fu : Dp K HA (.ref fu) fulK.dat := .tup t_fu (.cons (.int _) (.cons (.int _) (.cons (.tup (same_tup (((s_fum0.trans s_fum1).trans s_fum).trans s_fu) t_fus) (.cons (.int _) .nil)) (.cons (.tup (same_tup s_fu t_fum) (.cons (.tup (same_tup ((s_fum1.trans s_fum).trans s_fu) t_fum0) (.cons (.int _) (.cons (.int _) .nil))) (.cons (.tup (same_tup (s_fum.trans s_fu) t_fum1) (.cons (.int _) (.cons (.int _) .nil))) .nil))) (.cons (.int _) .nil)))))
      have s_fu_ : Same H' HA := ((((s_fus.trans s_fum0).trans s_fum1).trans s_fum).trans s_fu)
      clear s_fus t_fus s_fum0 t_fum0 s_fum1 t_fum1 s_fum t_fum s_fu t_fu
      rename Same H' HA => s_fu
      have TA := tabs_same T' s_fu
      clear T' D' s_fu
      refine ⟨by show 1 ≤ sizeLine; decide, fun t0 ht0 => ?_⟩
      have s0 := same_new (o := .tup [V.int 0]) ht0
      refine ⟨t0, 2000, [.int 0], rfl, rfl, upd_tup, by decide, by decide, by decide, fun b HB sB hb => ?_⟩
      rw [flat_one] at hb
      have hb' : SqT K HB b (rowV (List.replicate 2000 0)) := by
        unfold rowV
        rw [List.map_replicate]
        exact hb
      have RF : fulK.Row (List.replicate 2000 0) := ⟨by rw [List.length_replicate]; exact Nat.le_refl _, fun j hj => by rw [List.eq_of_mem_replicate hj]; decide⟩
      refine fun p dp hpn hdpn nep => ?_
      refine clip_mk (T := T) (C := fulK) (row := List.replicate 2000 0) hpn hdpn ful_ok (dp_same (s0.trans sB) _ _ d_fu) (dp_row hb') RF (dp_mkpair (s := (0, 0)) (T.qs_Clip_init _)) ful_St fun HC sC hcl => ⟨rfl, ?_⟩
      have TC := tabs_same TA ((s0.trans sB).trans sC)
      clear s0 ht0 sB hb hb' hpn hdpn nep sC d_fu TA
      dsimp only
      refine st_lit (t := tSeq _ _) [some (.ref a), some (.ref m), x2, x3, x4, x5, x6, some (.ref p)] rfl ?_
      have ll : (List.replicate 2000 (0 : Nat)).length = 2000 := List.length_replicate ..
      have R0 : fulK.Row [0] := ⟨by decide, by decide⟩
      refine ⟨_, rfl, by show 1 ≤ sizeLine; decide, fun t1 ht1 => ?_⟩
      have s1 := same_new (o := .tup [V.int 0]) ht1
      refine app_great (E := E0) (more := [0]) (hcl.same s1) (dp_row (r := [0]) upd_tup) R0 (by rw [ll]; decide) fun z HD sD hz => ?_
      refine ⟨by show 2 ≤ sizeLine; decide, fun t2 ht2 => ?_⟩
      have s2 := same_new (o := .tup [V.str "great", V.int 2000]) ht2
      refine neD_same (dp_same s2 _ _ hz) (.tup upd_tup (.cons (.str _) (.cons (.int _) .nil))) (by decide +kernel) ?_
      have hclE := hcl.same ((s1.trans sD).trans s2)
      have TE := tabs_same TC ((s1.trans sD).trans s2)
      generalize upd HD t2 (.tup [V.str "great", V.int 2000]) = HE at hclE TE
      clear s1 ht1 sD s2 ht2 hz hcl TC
      refine ⟨_, rfl, ?_⟩
      dsimp only [tNil]
      refine len_ok hclE (n := 2000) (by rw [ll]; rfl) (by decide) ?_
      refine ⟨rfl, _, rfl, ?_⟩
      refine iteF ?_
      obtain ⟨dx, _, _, _, hp, _⟩ := hclE.ex
      refine ⟨_, rfl, p, dx, _, rfl, hp, .inr ⟨"int", by unfold sevenT; simp, .base (.int _)⟩, ?_⟩
      refine mul_sp (t := 1) hclE (by decide) (fun _ z2 HF sF hn2 hz2 => ?_) (fun h => by rw [ll] at h; omega)
      dsimp only [tNil]
      refine len_ok hz2 (n := 2000) (by rw [flat_len2, ll]; rfl) (by decide) ?_
      refine ⟨rfl, _, rfl, ?_⟩
      refine iteF ?_
      have hclG := hclE.same sF
      have TG := tabs_same TE sF
      clear hn2 hz2 sF hp hclE TE
      dsimp only [tNext]
      refine ⟨TG, fun HL eL tL HM sM QL qL => ?_⟩
      have hclM := (hclG.ext eL).same sM
      obtain ⟨dx, _, _, _, hp, _⟩ := hclM.ex
      refine ⟨_, rfl, p, dx, _, rfl, hp, .inr ⟨"int", by unfold sevenT; simp, .base (.int _)⟩, ?_⟩
      refine mul_sp (t := 2) hclM (by decide) (fun h => by rw [ll] at h; omega) (fun _ => great_E fun z HN sN hz => ?_)
      refine ⟨by show 2 ≤ sizeLine; decide, fun t2 ht2 => ?_⟩
      have s2 := same_new (o := .tup [V.str "great", V.int 2000]) ht2
      refine ⟨.tuple [.str "great", .int 2000], .tuple [.str "great", .int 2000], dp_same s2 _ _ hz, .tup upd_tup (.cons (.str _) (.cons (.int _) .nil)), by decide +kernel, by decide +kernel, ?_⟩
      rw [eqv_self (by decide +kernel)]
      refine ⟨_, rfl, iteT ?_⟩
      have hclO := hclM.same (sN.trans s2)
      generalize upd HN t2 (.tup [V.str "great", V.int 2000]) = HO' at hclO
      clear s2 ht2 hz sN hp hclM qL sM tL eL
      obtain ⟨dx, _, _, _, hp, _⟩ := hclO.ex
      refine ⟨_, rfl, p, dx, _, rfl, hp, .inr ⟨"int", by unfold sevenT; simp, .base (.int _)⟩, ?_⟩
      refine mul_sp (t := 0) hclO (by decide) (fun _ z2 HF sF hn2 hz2 => ?_) (fun h => by rw [ll] at h; omega)
      dsimp only [tNil]
      refine len_ok hz2 (n := 0) (by rw [flat_len2, ll]; rfl) (by decide) ?_
      refine ⟨rfl, ?_⟩
      rw [decide_eq_true rfl]
      refine ⟨_, rfl, iteT ?_⟩
      have hclP := hclO.same sF
      clear hn2 hz2 sF hp hclO
      obtain ⟨dx, _, _, _, hp, _⟩ := hclP.ex
      have e1 : inO (some (.int (-1))) (fulK.lev (0, 0) (List.replicate 2000 0)) = false := by
        rw [show List.replicate 2000 (0 : Nat) = List.replicate (1999 + 1) 0 from rfl, ful_lev 1999]
        exact List.any_eq_false.mpr fun y hy => by rw [List.eq_of_mem_replicate hy]; decide
      have e2 : inO (some (.int 1)) (fulK.lev (0, 0) (List.replicate 2000 0)) = true := by
        rw [show List.replicate 2000 (0 : Nat) = List.replicate (1999 + 1) 0 from rfl, ful_lev 1999]
        exact List.any_eq_true.mpr ⟨1, List.mem_replicate.mpr ⟨by decide, rfl⟩, rfl⟩
      refine ⟨_, rfl, _, rfl, p, dx, _, rfl, hp, p, .int (-1), fulK, List.replicate 2000 0, (0, 0), some (.int (-1)), rfl, hclP, .int _, fun HQ sQ => ⟨_, rfl, ?_⟩⟩
      rw [e1]
      refine ⟨_, rfl, iteT ?_⟩
      refine ⟨_, rfl, p, dx, _, rfl, sQ _ _ hp, p, .int 1, fulK, List.replicate 2000 0, (0, 0), some (.int 1), rfl, hclP.same sQ, .int _, fun HR sR => ⟨_, rfl, ?_⟩⟩
      rw [e2]
      exact q _
end
end My

set_option pp.maxSteps 1200
namespace My
open PySem PySem.Spec PyProof.Rows L2 LamX
set_option maxHeartbeats 0 in
theorem all_mk {l : PySem.W.OpenLaw} {w : World} {K : PySem.W.Frag} {h : Heap} {mg : Str → Option Value} {fa : Addr} (X : K.In h) (G : h.Ns mainGlobals mg) (hfa : mg "law" = some (.ref fa)) (own : ∀ nm ∈ (["_law_times_right", "law"] : List Str), ∀ f, mg nm = some (.ref f) → OwnTab K f h)
    {oc0 kV0 dc0 pm0 cd0 ct0 : Value} {od0 an0 : Option Addr} {sl0 : Array (Option Value)} {f0 : Addr}
    {oc1 kV1 dc1 pm1 cd1 ct1 : Value} {od1 an1 : Option Addr} {sl1 : Array (Option Value)} {f1 : Addr}
    {oc2 kV2 dc2 pm2 cd2 ct2 : Value} {od2 an2 : Option Addr} {sl2 : Array (Option Value)} {f2 : Addr}
    {oc3 kV3 dc3 pm3 cd3 ct3 : Value} {od3 an3 : Option Addr} {sl3 : Array (Option Value)} {f3 : Addr}
    {oc4 kV4 dc4 pm4 cd4 ct4 : Value} {od4 an4 : Option Addr} {sl4 : Array (Option Value)} {f4 : Addr}
    {oc5 kV5 dc5 pm5 cd5 ct5 : Value} {od5 an5 : Option Addr} {sl5 : Array (Option Value)} {f5 : Addr}
    {oc6 kV6 dc6 pm6 cd6 ct6 : Value} {od6 an6 : Option Addr} {sl6 : Array (Option Value)} {f6 : Addr}
    {oc7 kV7 dc7 pm7 cd7 ct7 : Value} {od7 an7 : Option Addr} {sl7 : Array (Option Value)} {f7 : Addr}
    {oc8 kV8 dc8 pm8 cd8 ct8 : Value} {od8 an8 : Option Addr} {sl8 : Array (Option Value)} {f8 : Addr}
    {oc9 kV9 dc9 pm9 cd9 ct9 : Value} {od9 an9 : Option Addr} {sl9 : Array (Option Value)} {f9 : Addr}
    {oc10 kV10 dc10 pm10 cd10 ct10 : Value} {od10 an10 : Option Addr} {sl10 : Array (Option Value)} {f10 : Addr}
    {oc11 kV11 dc11 pm11 cd11 ct11 : Value} {od11 an11 : Option Addr} {sl11 : Array (Option Value)} {f11 : Addr}
    {oc12 kV12 dc12 pm12 cd12 ct12 : Value} {od12 an12 : Option Addr} {sl12 : Array (Option Value)} {f12 : Addr}
    {oc13 kV13 dc13 pm13 cd13 ct13 : Value} {od13 an13 : Option Addr} {sl13 : Array (Option Value)} {f13 : Addr}
    {oc14 kV14 dc14 pm14 cd14 ct14 : Value} {od14 an14 : Option Addr} {sl14 : Array (Option Value)} {f14 : Addr}
    {oc15 kV15 dc15 pm15 cd15 ct15 : Value} {od15 an15 : Option Addr} {sl15 : Array (Option Value)} {f15 : Addr}
    {oc16 kV16 dc16 pm16 cd16 ct16 : Value} {od16 an16 : Option Addr} {sl16 : Array (Option Value)} {f16 : Addr}
    {oc17 kV17 dc17 pm17 cd17 ct17 : Value} {od17 an17 : Option Addr} {sl17 : Array (Option Value)} {f17 : Addr}
    {oc18 kV18 dc18 pm18 cd18 ct18 : Value} {od18 an18 : Option Addr} {sl18 : Array (Option Value)} {f18 : Addr}
    {oc19 kV19 dc19 pm19 cd19 ct19 : Value} {od19 an19 : Option Addr} {sl19 : Array (Option Value)} {f19 : Addr}
    {oc20 kV20 dc20 pm20 cd20 ct20 : Value} {od20 an20 : Option Addr} {sl20 : Array (Option Value)} {f20 : Addr}
    {oc21 kV21 dc21 pm21 cd21 ct21 : Value} {od21 an21 : Option Addr} {sl21 : Array (Option Value)} {f21 : Addr}
    {oc22 kV22 dc22 pm22 cd22 ct22 : Value} {od22 an22 : Option Addr} {sl22 : Array (Option Value)} {f22 : Addr}
    {oc23 kV23 dc23 pm23 cd23 ct23 : Value} {od23 an23 : Option Addr} {sl23 : Array (Option Value)} {f23 : Addr}
    {oc24 kV24 dc24 pm24 cd24 ct24 : Value} {od24 an24 : Option Addr} {sl24 : Array (Option Value)} {f24 : Addr}
    {oc25 kV25 dc25 pm25 cd25 ct25 : Value} {od25 an25 : Option Addr} {sl25 : Array (Option Value)} {f25 : Addr}
    {oc26 kV26 dc26 pm26 cd26 ct26 : Value} {od26 an26 : Option Addr} {sl26 : Array (Option Value)} {f26 : Addr}
    {oc27 kV27 dc27 pm27 cd27 ct27 : Value} {od27 an27 : Option Addr} {sl27 : Array (Option Value)} {f27 : Addr}
    {oc28 kV28 dc28 pm28 cd28 ct28 : Value} {od28 an28 : Option Addr} {sl28 : Array (Option Value)} {f28 : Addr}
    {oc29 kV29 dc29 pm29 cd29 ct29 : Value} {od29 an29 : Option Addr} {sl29 : Array (Option Value)} {f29 : Addr}
    {oc30 kV30 dc30 pm30 cd30 ct30 : Value} {od30 an30 : Option Addr} {sl30 : Array (Option Value)} {f30 : Addr}
    {oc31 kV31 dc31 pm31 cd31 ct31 : Value} {od31 an31 : Option Addr} {sl31 : Array (Option Value)} {f31 : Addr}
    {oc32 kV32 dc32 pm32 cd32 ct32 : Value} {od32 an32 : Option Addr} {sl32 : Array (Option Value)} {f32 : Addr}
    {oc33 kV33 dc33 pm33 cd33 ct33 : Value} {od33 an33 : Option Addr} {sl33 : Array (Option Value)} {f33 : Addr}
    {oc34 kV34 dc34 pm34 cd34 ct34 : Value} {od34 an34 : Option Addr} {sl34 : Array (Option Value)} {f34 : Addr}
    {oc35 kV35 dc35 pm35 cd35 ct35 : Value} {od35 an35 : Option Addr} {sl35 : Array (Option Value)} {f35 : Addr}
    {oc36 kV36 dc36 pm36 cd36 ct36 : Value} {od36 an36 : Option Addr} {sl36 : Array (Option Value)} {f36 : Addr}
    {oc37 kV37 dc37 pm37 cd37 ct37 : Value} {od37 an37 : Option Addr} {sl37 : Array (Option Value)} {f37 : Addr}
    {oc38 kV38 dc38 pm38 cd38 ct38 : Value} {od38 an38 : Option Addr} {sl38 : Array (Option Value)} {f38 : Addr}
    {oc39 kV39 dc39 pm39 cd39 ct39 : Value} {od39 an39 : Option Addr} {sl39 : Array (Option Value)} {f39 : Addr}
    {oc40 kV40 dc40 pm40 cd40 ct40 : Value} {od40 an40 : Option Addr} {sl40 : Array (Option Value)} {f40 : Addr}
    {oc41 kV41 dc41 pm41 cd41 ct41 : Value} {od41 an41 : Option Addr} {sl41 : Array (Option Value)} {f41 : Addr}
    {oc42 kV42 dc42 pm42 cd42 ct42 : Value} {od42 an42 : Option Addr} {sl42 : Array (Option Value)} {f42 : Addr}
    {oc43 kV43 dc43 pm43 cd43 ct43 : Value} {od43 an43 : Option Addr} {sl43 : Array (Option Value)} {f43 : Addr}
    {oc44 kV44 dc44 pm44 ct44 : Value} {od44 an44 : Option Addr} {sl44 : Array (Option Value)} {f44 : Addr} {cL44 PL44 : Addr} {eL44 : Value} {ddL44 : Option Addr} {vsL44 : Array Value} {slL44 : Array (Option Value)}
    {oc45 kV45 dc45 pm45 cd45 ct45 : Value} {od45 an45 : Option Addr} {sl45 : Array (Option Value)} {f45 : Addr}
    {oc46 kV46 dc46 pm46 cd46 ct46 : Value} {od46 an46 : Option Addr} {sl46 : Array (Option Value)} {f46 : Addr}
    {oc47 kV47 dc47 pm47 ct47 : Value} {od47 an47 : Option Addr} {sl47 : Array (Option Value)} {f47 : Addr} {cL47 PL47 : Addr} {eL47 : Value} {ddL47 : Option Addr} {vsL47 : Array Value} {slL47 : Array (Option Value)}
    {CO0 : Addr}
    {oc48 dc48 pm48 cd48 ct48 : Value} {od48 an48 : Option Addr} {sl48 : Array (Option Value)} {f48 TD48 qe48 D48 q48 : Addr}
    {dd48 : Option Addr} {tq48 tr48 : Tok} {nq48 : Nat} {sq48 : Array (Option Value)}
    {de48 : Option Addr} {ne48 : Nat} {se48 : Array (Option Value)}
    {dz48 : Option Addr} {nz48 : Nat} {sz48 : Array (Option Value)}
    {oc49 kV49 dc49 pm49 cd49 ct49 : Value} {od49 an49 : Option Addr} {sl49 : Array (Option Value)} {f49 p49 : Addr} {rest49 : List Value}
    {oc50 kV50 dc50 pm50 cd50 ct50 : Value} {od50 an50 : Option Addr} {sl50 : Array (Option Value)} {f50 p50 : Addr} {rest50 : List Value}
    {oc51 kV51 dc51 pm51 cd51 ct51 : Value} {od51 an51 : Option Addr} {sl51 : Array (Option Value)} {f51 p51 : Addr} {rest51 : List Value}
    {oc52 kV52 dc52 pm52 cd52 ct52 : Value} {od52 an52 : Option Addr} {sl52 : Array (Option Value)} {f52 : Addr}
    {oc53 kV53 dc53 pm53 cd53 ct53 : Value} {od53 an53 : Option Addr} {sl53 : Array (Option Value)} {f53 : Addr}
    {oc54 kV54 dc54 pm54 cd54 ct54 : Value} {od54 an54 : Option Addr} {sl54 : Array (Option Value)} {f54 : Addr}
    {oc55 kV55 dc55 pm55 cd55 ct55 : Value} {od55 an55 : Option Addr} {sl55 : Array (Option Value)} {f55 : Addr}
    {oc56 kV56 dc56 pm56 cd56 ct56 : Value} {od56 an56 : Option Addr} {sl56 : Array (Option Value)} {f56 : Addr}
    {oc57 kV57 dc57 pm57 cd57 ct57 : Value} {od57 an57 : Option Addr} {sl57 : Array (Option Value)} {f57 : Addr}
    {oc58 kV58 dc58 pm58 cd58 ct58 : Value} {od58 an58 : Option Addr} {sl58 : Array (Option Value)} {f58 : Addr}
    {oc59 kV59 dc59 pm59 cd59 ct59 : Value} {od59 an59 : Option Addr} {sl59 : Array (Option Value)} {f59 : Addr}
    {oc60 kV60 dc60 pm60 cd60 ct60 : Value} {od60 an60 : Option Addr} {sl60 : Array (Option Value)} {f60 : Addr}
    {oc61 kV61 dc61 pm61 cd61 ct61 : Value} {od61 an61 : Option Addr} {sl61 : Array (Option Value)} {f61 : Addr}
    {oc62 kV62 dc62 pm62 cd62 ct62 : Value} {od62 an62 : Option Addr} {sl62 : Array (Option Value)} {f62 : Addr}
    {oc63 kV63 dc63 pm63 cd63 ct63 : Value} {od63 an63 : Option Addr} {sl63 : Array (Option Value)} {f63 : Addr}
    {C0 g0 N0 : Addr} {nmC0 qC0 : Str} {bsC0 subC0 : List Value} {snC0 : List Str} {abC0 : Bool} {colC0 : Option Bool} {ddC0 : Option Addr} {m0C0 m1C0 m2C0 m3C0 m5C0 : Option Value} {ocC0 kVC0 dcC0 pmC0 cdC0 ctC0 : Value} {odC0 anC0 : Option Addr} {slC0 : Array (Option Value)}
    {C1 g1 N1 : Addr} {nmC1 qC1 : Str} {bsC1 subC1 : List Value} {snC1 : List Str} {abC1 : Bool} {colC1 : Option Bool} {ddC1 : Option Addr} {m0C1 m1C1 m2C1 m3C1 m5C1 : Option Value} {ocC1 kVC1 dcC1 pmC1 cdC1 ctC1 : Value} {odC1 anC1 : Option Addr} {slC1 : Array (Option Value)}
    {C2 g2 N2 : Addr} {nmC2 qC2 : Str} {bsC2 subC2 : List Value} {snC2 : List Str} {abC2 : Bool} {colC2 : Option Bool} {ddC2 : Option Addr} {m0C2 m1C2 m2C2 m3C2 m5C2 : Option Value} {ocC2 kVC2 dcC2 pmC2 cdC2 ctC2 : Value} {odC2 anC2 : Option Addr} {slC2 : Array (Option Value)}
    {C3 g3 N3 : Addr} {nmC3 qC3 : Str} {bsC3 subC3 : List Value} {snC3 : List Str} {abC3 : Bool} {colC3 : Option Bool} {ddC3 : Option Addr} {m0C3 m1C3 m2C3 m3C3 m5C3 : Option Value} {ocC3 kVC3 dcC3 pmC3 cdC3 ctC3 : Value} {odC3 anC3 : Option Addr} {slC3 : Array (Option Value)}
    {C4 g4 N4 : Addr} {nmC4 qC4 : Str} {bsC4 subC4 : List Value} {snC4 : List Str} {abC4 : Bool} {colC4 : Option Bool} {ddC4 : Option Addr} {m0C4 m1C4 m2C4 m3C4 m5C4 : Option Value} {ocC4 kVC4 dcC4 pmC4 cdC4 ctC4 : Value} {odC4 anC4 : Option Addr} {slC4 : Array (Option Value)}
    {C5 : Addr}
    {C6 : Addr}
    {C7 : Addr}
    {tMC : Tok}
    (a0 : PySem.W.nsIn K mainGlobals "_wall" = some (some (.ref f0)))
    (l0 : K.lookup f0 = some ⟨oc0, od0, .func (PySem.W.fnOf "_wall" "_wall" (defArgs s_wall) (defBody s_wall) (defScope s_wall) .none kV0 dc0 pm0 an0 cd0 ct0), sl0⟩)
    (c0 : PySem.W.codeIn K cd0 "_wall" = true)
    (k0 : PySem.W.keepIn K (.ref f0) = true)
    (a1 : PySem.W.nsIn K mainGlobals "is_integer" = some (some (.ref f1)))
    (l1 : K.lookup f1 = some ⟨oc1, od1, .func (PySem.W.fnOf "is_integer" "is_integer" (defArgs s_is_integer) (defBody s_is_integer) (defScope s_is_integer) .none kV1 dc1 pm1 an1 cd1 ct1), sl1⟩)
    (c1 : PySem.W.codeIn K cd1 "is_integer" = true)
    (k1 : PySem.W.keepIn K (.ref f1) = true)
    (a2 : PySem.W.nsIn K mainGlobals "is_between" = some (some (.ref f2)))
    (l2 : K.lookup f2 = some ⟨oc2, od2, .func (PySem.W.fnOf "is_between" "is_between" (defArgs s_is_between) (defBody s_is_between) (defScope s_is_between) .none kV2 dc2 pm2 an2 cd2 ct2), sl2⟩)
    (c2 : PySem.W.codeIn K cd2 "is_between" = true)
    (k2 : PySem.W.keepIn K (.ref f2) = true)
    (a3 : PySem.W.nsIn K mainGlobals "is_pair" = some (some (.ref f3)))
    (l3 : K.lookup f3 = some ⟨oc3, od3, .func (PySem.W.fnOf "is_pair" "is_pair" (defArgs s_is_pair) (defBody s_is_pair) (defScope s_is_pair) .none kV3 dc3 pm3 an3 cd3 ct3), sl3⟩)
    (c3 : PySem.W.codeIn K cd3 "is_pair" = true)
    (k3 : PySem.W.keepIn K (.ref f3) = true)
    (a4 : PySem.W.nsIn K mainGlobals "is_code" = some (some (.ref f4)))
    (l4 : K.lookup f4 = some ⟨oc4, od4, .func (PySem.W.fnOf "is_code" "is_code" (defArgs s_is_code) (defBody s_is_code) (defScope s_is_code) .none kV4 dc4 pm4 an4 cd4 ct4), sl4⟩)
    (c4 : PySem.W.codeIn K cd4 "is_code" = true)
    (k4 : PySem.W.keepIn K (.ref f4) = true)
    (a5 : PySem.W.nsIn K mainGlobals "is_place" = some (some (.ref f5)))
    (l5 : K.lookup f5 = some ⟨oc5, od5, .func (PySem.W.fnOf "is_place" "is_place" (defArgs s_is_place) (defBody s_is_place) (defScope s_is_place) .none kV5 dc5 pm5 an5 cd5 ct5), sl5⟩)
    (c5 : PySem.W.codeIn K cd5 "is_place" = true)
    (k5 : PySem.W.keepIn K (.ref f5) = true)
    (a6 : PySem.W.nsIn K mainGlobals "is_state" = some (some (.ref f6)))
    (l6 : K.lookup f6 = some ⟨oc6, od6, .func (PySem.W.fnOf "is_state" "is_state" (defArgs s_is_state) (defBody s_is_state) (defScope s_is_state) .none kV6 dc6 pm6 an6 cd6 ct6), sl6⟩)
    (c6 : PySem.W.codeIn K cd6 "is_state" = true)
    (k6 : PySem.W.keepIn K (.ref f6) = true)
    (a7 : PySem.W.nsIn K mainGlobals "need_state" = some (some (.ref f7)))
    (l7 : K.lookup f7 = some ⟨oc7, od7, .func (PySem.W.fnOf "need_state" "need_state" (defArgs s_need_state) (defBody s_need_state) (defScope s_need_state) .none kV7 dc7 pm7 an7 cd7 ct7), sl7⟩)
    (c7 : PySem.W.codeIn K cd7 "need_state" = true)
    (k7 : PySem.W.keepIn K (.ref f7) = true)
    (a8 : PySem.W.nsIn K mainGlobals "need_row" = some (some (.ref f8)))
    (l8 : K.lookup f8 = some ⟨oc8, od8, .func (PySem.W.fnOf "need_row" "need_row" (defArgs s_need_row) (defBody s_need_row) (defScope s_need_row) .none kV8 dc8 pm8 an8 cd8 ct8), sl8⟩)
    (c8 : PySem.W.codeIn K cd8 "need_row" = true)
    (k8 : PySem.W.keepIn K (.ref f8) = true)
    (a9 : PySem.W.nsIn K mainGlobals "need_few_states" = some (some (.ref f9)))
    (l9 : K.lookup f9 = some ⟨oc9, od9, .func (PySem.W.fnOf "need_few_states" "need_few_states" (defArgs s_need_few_states) (defBody s_need_few_states) (defScope s_need_few_states) .none kV9 dc9 pm9 an9 cd9 ct9), sl9⟩)
    (c9 : PySem.W.codeIn K cd9 "need_few_states" = true)
    (k9 : PySem.W.keepIn K (.ref f9) = true)
    (a10 : PySem.W.nsIn K mainGlobals "all_states" = some (some (.ref f10)))
    (l10 : K.lookup f10 = some ⟨oc10, od10, .func (PySem.W.fnOf "all_states" "all_states" (defArgs s_all_states) (defBody s_all_states) (defScope s_all_states) .none kV10 dc10 pm10 an10 cd10 ct10), sl10⟩)
    (c10 : PySem.W.codeIn K cd10 "all_states" = true)
    (k10 : PySem.W.keepIn K (.ref f10) = true)
    (a11 : PySem.W.nsIn K mainGlobals "rounded" = some (some (.ref f11)))
    (l11 : K.lookup f11 = some ⟨oc11, od11, .func (PySem.W.fnOf "rounded" "rounded" (defArgs s_rounded) (defBody s_rounded) (defScope s_rounded) .none kV11 dc11 pm11 an11 cd11 ct11), sl11⟩)
    (c11 : PySem.W.codeIn K cd11 "rounded" = true)
    (k11 : PySem.W.keepIn K (.ref f11) = true)
    (a12 : PySem.W.nsIn K mainGlobals "limited" = some (some (.ref f12)))
    (l12 : K.lookup f12 = some ⟨oc12, od12, .func (PySem.W.fnOf "limited" "limited" (defArgs s_limited) (defBody s_limited) (defScope s_limited) .none kV12 dc12 pm12 an12 cd12 ct12), sl12⟩)
    (c12 : PySem.W.codeIn K cd12 "limited" = true)
    (k12 : PySem.W.keepIn K (.ref f12) = true)
    (a13 : PySem.W.nsIn K mainGlobals "change_at" = some (some (.ref f13)))
    (l13 : K.lookup f13 = some ⟨oc13, od13, .func (PySem.W.fnOf "change_at" "change_at" (defArgs s_change_at) (defBody s_change_at) (defScope s_change_at) .none kV13 dc13 pm13 an13 cd13 ct13), sl13⟩)
    (c13 : PySem.W.codeIn K cd13 "change_at" = true)
    (k13 : PySem.W.keepIn K (.ref f13) = true)
    (a14 : PySem.W.nsIn K mainGlobals "faded" = some (some (.ref f14)))
    (l14 : K.lookup f14 = some ⟨oc14, od14, .func (PySem.W.fnOf "faded" "faded" (defArgs s_faded) (defBody s_faded) (defScope s_faded) .none kV14 dc14 pm14 an14 cd14 ct14), sl14⟩)
    (c14 : PySem.W.codeIn K cd14 "faded" = true)
    (k14 : PySem.W.keepIn K (.ref f14) = true)
    (a15 : PySem.W.nsIn K mainGlobals "state_behind" = some (some (.ref f15)))
    (l15 : K.lookup f15 = some ⟨oc15, od15, .func (PySem.W.fnOf "state_behind" "state_behind" (defArgs s_state_behind) (defBody s_state_behind) (defScope s_state_behind) .none kV15 dc15 pm15 an15 cd15 ct15), sl15⟩)
    (c15 : PySem.W.codeIn K cd15 "state_behind" = true)
    (k15 : PySem.W.keepIn K (.ref f15) = true)
    (a16 : PySem.W.nsIn K mainGlobals "state_behind_row" = some (some (.ref f16)))
    (l16 : K.lookup f16 = some ⟨oc16, od16, .func (PySem.W.fnOf "state_behind_row" "state_behind_row" (defArgs s_state_behind_row) (defBody s_state_behind_row) (defScope s_state_behind_row) .none kV16 dc16 pm16 an16 cd16 ct16), sl16⟩)
    (c16 : PySem.W.codeIn K cd16 "state_behind_row" = true)
    (k16 : PySem.W.keepIn K (.ref f16) = true)
    (a17 : PySem.W.nsIn K mainGlobals "samples_along" = some (some (.ref f17)))
    (l17 : K.lookup f17 = some ⟨oc17, od17, .func (PySem.W.fnOf "samples_along" "samples_along" (defArgs s_samples_along) (defBody s_samples_along) (defScope s_samples_along) .none kV17 dc17 pm17 an17 cd17 ct17), sl17⟩)
    (c17 : PySem.W.codeIn K cd17 "samples_along" = true)
    (k17 : PySem.W.keepIn K (.ref f17) = true)
    (a18 : PySem.W.nsIn K mainGlobals "need_coder" = some (some (.ref f18)))
    (l18 : K.lookup f18 = some ⟨oc18, od18, .func (PySem.W.fnOf "need_coder" "need_coder" (defArgs s_need_coder) (defBody s_need_coder) (defScope s_need_coder) .none kV18 dc18 pm18 an18 cd18 ct18), sl18⟩)
    (c18 : PySem.W.codeIn K cd18 "need_coder" = true)
    (k18 : PySem.W.keepIn K (.ref f18) = true)
    (a19 : PySem.W.nsIn K mainGlobals "_first_fault" = some (some (.ref f19)))
    (l19 : K.lookup f19 = some ⟨oc19, od19, .func (PySem.W.fnOf "_first_fault" "_first_fault" (defArgs s_first_fault) (defBody s_first_fault) (defScope s_first_fault) .none kV19 dc19 pm19 an19 cd19 ct19), sl19⟩)
    (c19 : PySem.W.codeIn K cd19 "_first_fault" = true)
    (k19 : PySem.W.keepIn K (.ref f19) = true)
    (a20 : PySem.W.nsIn K mainGlobals "_fault_of_steps" = some (some (.ref f20)))
    (l20 : K.lookup f20 = some ⟨oc20, od20, .func (PySem.W.fnOf "_fault_of_steps" "_fault_of_steps" (defArgs s_fault_of_steps) (defBody s_fault_of_steps) (defScope s_fault_of_steps) .none kV20 dc20 pm20 an20 cd20 ct20), sl20⟩)
    (c20 : PySem.W.codeIn K cd20 "_fault_of_steps" = true)
    (k20 : PySem.W.keepIn K (.ref f20) = true)
    (a21 : PySem.W.nsIn K mainGlobals "_fault_of_moves" = some (some (.ref f21)))
    (l21 : K.lookup f21 = some ⟨oc21, od21, .func (PySem.W.fnOf "_fault_of_moves" "_fault_of_moves" (defArgs s_fault_of_moves) (defBody s_fault_of_moves) (defScope s_fault_of_moves) .none kV21 dc21 pm21 an21 cd21 ct21), sl21⟩)
    (c21 : PySem.W.codeIn K cd21 "_fault_of_moves" = true)
    (k21 : PySem.W.keepIn K (.ref f21) = true)
    (a22 : PySem.W.nsIn K mainGlobals "_is_tuple_of" = some (some (.ref f22)))
    (l22 : K.lookup f22 = some ⟨oc22, od22, .func (PySem.W.fnOf "_is_tuple_of" "_is_tuple_of" (defArgs s_is_tuple_of) (defBody s_is_tuple_of) (defScope s_is_tuple_of) .none kV22 dc22 pm22 an22 cd22 ct22), sl22⟩)
    (c22 : PySem.W.codeIn K cd22 "_is_tuple_of" = true)
    (k22 : PySem.W.keepIn K (.ref f22) = true)
    (a23 : PySem.W.nsIn K mainGlobals "_is_move" = some (some (.ref f23)))
    (l23 : K.lookup f23 = some ⟨oc23, od23, .func (PySem.W.fnOf "_is_move" "_is_move" (defArgs s_is_move) (defBody s_is_move) (defScope s_is_move) .none kV23 dc23 pm23 an23 cd23 ct23), sl23⟩)
    (c23 : PySem.W.codeIn K cd23 "_is_move" = true)
    (k23 : PySem.W.keepIn K (.ref f23) = true)
    (a24 : PySem.W.nsIn K mainGlobals "_is_fade" = some (some (.ref f24)))
    (l24 : K.lookup f24 = some ⟨oc24, od24, .func (PySem.W.fnOf "_is_fade" "_is_fade" (defArgs s_is_fade) (defBody s_is_fade) (defScope s_is_fade) .none kV24 dc24 pm24 an24 cd24 ct24), sl24⟩)
    (c24 : PySem.W.codeIn K cd24 "_is_fade" = true)
    (k24 : PySem.W.keepIn K (.ref f24) = true)
    (a25 : PySem.W.nsIn K mainGlobals "row_along" = some (some (.ref f25)))
    (l25 : K.lookup f25 = some ⟨oc25, od25, .func (PySem.W.fnOf "row_along" "row_along" (defArgs s_row_along) (defBody s_row_along) (defScope s_row_along) .none kV25 dc25 pm25 an25 cd25 ct25), sl25⟩)
    (c25 : PySem.W.codeIn K cd25 "row_along" = true)
    (k25 : PySem.W.keepIn K (.ref f25) = true)
    (a26 : PySem.W.nsIn K mainGlobals "row_into" = some (some (.ref f26)))
    (l26 : K.lookup f26 = some ⟨oc26, od26, .func (PySem.W.fnOf "row_into" "row_into" (defArgs s_row_into) (defBody s_row_into) (defScope s_row_into) .none kV26 dc26 pm26 an26 cd26 ct26), sl26⟩)
    (c26 : PySem.W.codeIn K cd26 "row_into" = true)
    (k26 : PySem.W.keepIn K (.ref f26) = true)
    (a27 : PySem.W.nsIn K mainGlobals "seam_between" = some (some (.ref f27)))
    (l27 : K.lookup f27 = some ⟨oc27, od27, .func (PySem.W.fnOf "seam_between" "seam_between" (defArgs s_seam_between) (defBody s_seam_between) (defScope s_seam_between) .none kV27 dc27 pm27 an27 cd27 ct27), sl27⟩)
    (c27 : PySem.W.codeIn K cd27 "seam_between" = true)
    (k27 : PySem.W.keepIn K (.ref f27) = true)
    (a28 : PySem.W.nsIn K mainGlobals "_states_alike" = some (some (.ref f28)))
    (l28 : K.lookup f28 = some ⟨oc28, od28, .func (PySem.W.fnOf "_states_alike" "_states_alike" (defArgs s_states_alike) (defBody s_states_alike) (defScope s_states_alike) .none kV28 dc28 pm28 an28 cd28 ct28), sl28⟩)
    (c28 : PySem.W.codeIn K cd28 "_states_alike" = true)
    (k28 : PySem.W.keepIn K (.ref f28) = true)
    (a29 : PySem.W.nsIn K mainGlobals "_need_few_codes" = some (some (.ref f29)))
    (l29 : K.lookup f29 = some ⟨oc29, od29, .func (PySem.W.fnOf "_need_few_codes" "_need_few_codes" (defArgs s_need_few_codes) (defBody s_need_few_codes) (defScope s_need_few_codes) .none kV29 dc29 pm29 an29 cd29 ct29), sl29⟩)
    (c29 : PySem.W.codeIn K cd29 "_need_few_codes" = true)
    (k29 : PySem.W.keepIn K (.ref f29) = true)
    (a30 : PySem.W.nsIn K mainGlobals "_need_repeats" = some (some (.ref f30)))
    (l30 : K.lookup f30 = some ⟨oc30, od30, .func (PySem.W.fnOf "_need_repeats" "_need_repeats" (defArgs s_need_repeats) (defBody s_need_repeats) (defScope s_need_repeats) .none kV30 dc30 pm30 an30 cd30 ct30), sl30⟩)
    (c30 : PySem.W.codeIn K cd30 "_need_repeats" = true)
    (k30 : PySem.W.keepIn K (.ref f30) = true)
    (a31 : PySem.W.nsIn K mainGlobals "_law_begun" = some (some (.ref f31)))
    (l31 : K.lookup f31 = some ⟨oc31, od31, .func (PySem.W.fnOf "_law_begun" "_law_begun" (defArgs s_law_begun) (defBody s_law_begun) (defScope s_law_begun) .none kV31 dc31 pm31 an31 cd31 ct31), sl31⟩)
    (c31 : PySem.W.codeIn K cd31 "_law_begun" = true)
    (k31 : PySem.W.keepIn K (.ref f31) = true)
    (a32 : PySem.W.nsIn K mainGlobals "_law_next" = some (some (.ref f32)))
    (l32 : K.lookup f32 = some ⟨oc32, od32, .func (PySem.W.fnOf "_law_next" "_law_next" (defArgs s_law_next) (defBody s_law_next) (defScope s_law_next) .none kV32 dc32 pm32 an32 cd32 ct32), sl32⟩)
    (c32 : PySem.W.codeIn K cd32 "_law_next" = true)
    (k32 : PySem.W.keepIn K (.ref f32) = true)
    (a33 : PySem.W.nsIn K mainGlobals "_law_coder" = some (some (.ref f33)))
    (l33 : K.lookup f33 = some ⟨oc33, od33, .func (PySem.W.fnOf "_law_coder" "_law_coder" (defArgs s_law_coder) (defBody s_law_coder) (defScope s_law_coder) .none kV33 dc33 pm33 an33 cd33 ct33), sl33⟩)
    (c33 : PySem.W.codeIn K cd33 "_law_coder" = true)
    (k33 : PySem.W.keepIn K (.ref f33) = true)
    (a34 : PySem.W.nsIn K mainGlobals "_law_parted" = some (some (.ref f34)))
    (l34 : K.lookup f34 = some ⟨oc34, od34, .func (PySem.W.fnOf "_law_parted" "_law_parted" (defArgs s_law_parted) (defBody s_law_parted) (defScope s_law_parted) .none kV34 dc34 pm34 an34 cd34 ct34), sl34⟩)
    (c34 : PySem.W.codeIn K cd34 "_law_parted" = true)
    (k34 : PySem.W.keepIn K (.ref f34) = true)
    (a35 : PySem.W.nsIn K mainGlobals "_law_limited" = some (some (.ref f35)))
    (l35 : K.lookup f35 = some ⟨oc35, od35, .func (PySem.W.fnOf "_law_limited" "_law_limited" (defArgs s_law_limited) (defBody s_law_limited) (defScope s_law_limited) .none kV35 dc35 pm35 an35 cd35 ct35), sl35⟩)
    (c35 : PySem.W.codeIn K cd35 "_law_limited" = true)
    (k35 : PySem.W.keepIn K (.ref f35) = true)
    (a36 : PySem.W.nsIn K mainGlobals "_law_led" = some (some (.ref f36)))
    (l36 : K.lookup f36 = some ⟨oc36, od36, .func (PySem.W.fnOf "_law_led" "_law_led" (defArgs s_law_led) (defBody s_law_led) (defScope s_law_led) .none kV36 dc36 pm36 an36 cd36 ct36), sl36⟩)
    (c36 : PySem.W.codeIn K cd36 "_law_led" = true)
    (k36 : PySem.W.keepIn K (.ref f36) = true)
    (a37 : PySem.W.nsIn K mainGlobals "_law_walked" = some (some (.ref f37)))
    (l37 : K.lookup f37 = some ⟨oc37, od37, .func (PySem.W.fnOf "_law_walked" "_law_walked" (defArgs s_law_walked) (defBody s_law_walked) (defScope s_law_walked) .none kV37 dc37 pm37 an37 cd37 ct37), sl37⟩)
    (c37 : PySem.W.codeIn K cd37 "_law_walked" = true)
    (k37 : PySem.W.keepIn K (.ref f37) = true)
    (a38 : PySem.W.nsIn K mainGlobals "_law_some_state" = some (some (.ref f38)))
    (l38 : K.lookup f38 = some ⟨oc38, od38, .func (PySem.W.fnOf "_law_some_state" "_law_some_state" (defArgs s_law_some_state) (defBody s_law_some_state) (defScope s_law_some_state) .none kV38 dc38 pm38 an38 cd38 ct38), sl38⟩)
    (c38 : PySem.W.codeIn K cd38 "_law_some_state" = true)
    (k38 : PySem.W.keepIn K (.ref f38) = true)
    (a39 : PySem.W.nsIn K mainGlobals "_law_row" = some (some (.ref f39)))
    (l39 : K.lookup f39 = some ⟨oc39, od39, .func (PySem.W.fnOf "_law_row" "_law_row" (defArgs s_law_row) (defBody s_law_row) (defScope s_law_row) .none kV39 dc39 pm39 an39 cd39 ct39), sl39⟩)
    (c39 : PySem.W.codeIn K cd39 "_law_row" = true)
    (k39 : PySem.W.keepIn K (.ref f39) = true)
    (a40 : PySem.W.nsIn K mainGlobals "_law_fault" = some (some (.ref f40)))
    (l40 : K.lookup f40 = some ⟨oc40, od40, .func (PySem.W.fnOf "_law_fault" "_law_fault" (defArgs s_law_fault) (defBody s_law_fault) (defScope s_law_fault) .none kV40 dc40 pm40 an40 cd40 ct40), sl40⟩)
    (c40 : PySem.W.codeIn K cd40 "_law_fault" = true)
    (k40 : PySem.W.keepIn K (.ref f40) = true)
    (a41 : PySem.W.nsIn K mainGlobals "_law_outcome" = some (some (.ref f41)))
    (l41 : K.lookup f41 = some ⟨oc41, od41, .func (PySem.W.fnOf "_law_outcome" "_law_outcome" (defArgs s_law_outcome) (defBody s_law_outcome) (defScope s_law_outcome) .none kV41 dc41 pm41 an41 cd41 ct41), sl41⟩)
    (c41 : PySem.W.codeIn K cd41 "_law_outcome" = true)
    (k41 : PySem.W.keepIn K (.ref f41) = true)
    (a42 : PySem.W.nsIn K mainGlobals "_law_shown" = some (some (.ref f42)))
    (l42 : K.lookup f42 = some ⟨oc42, od42, .func (PySem.W.fnOf "_law_shown" "_law_shown" (defArgs s_law_shown) (defBody s_law_shown) (defScope s_law_shown) .none kV42 dc42 pm42 an42 cd42 ct42), sl42⟩)
    (c42 : PySem.W.codeIn K cd42 "_law_shown" = true)
    (k42 : PySem.W.keepIn K (.ref f42) = true)
    (a43 : PySem.W.nsIn K mainGlobals "_law_appended" = some (some (.ref f43)))
    (l43 : K.lookup f43 = some ⟨oc43, od43, .func (PySem.W.fnOf "_law_appended" "_law_appended" (defArgs s_law_appended) (defBody s_law_appended) (defScope s_law_appended) .none kV43 dc43 pm43 an43 cd43 ct43), sl43⟩)
    (c43 : PySem.W.codeIn K cd43 "_law_appended" = true)
    (k43 : PySem.W.keepIn K (.ref f43) = true)
    (a44 : PySem.W.nsIn K mainGlobals "_law_times_right" = some (some (.ref f44)))
    (l44 : K.lookup f44 = some ⟨oc44, od44, .func (PySem.W.fnOf "_law_times_right" "_law_times_right" (defArgs s_law_times_right) (defBody s_law_times_right) (defScope s_law_times_right) .none kV44 dc44 pm44 an44 (.ref cL44) ct44), sl44⟩)
    (c44 : PySem.W.codeIn K (.ref cL44) "_law_times_right" = true)
    (k44 : PySem.W.keepIn K (.ref f44) = true)
    (lL44 : K.lookup cL44 = some ⟨eL44, ddL44, .fields vsL44, slL44⟩)
    (vL44 : (vsL44[11]? : Option Value) = some (.ref PL44))
    (hL44 : PySem.W.codeHdIn K cL44 PL44 = true)
    (nL44 : K.lookup PL44 = none)
    (a45 : PySem.W.nsIn K mainGlobals "_law_sample_right" = some (some (.ref f45)))
    (l45 : K.lookup f45 = some ⟨oc45, od45, .func (PySem.W.fnOf "_law_sample_right" "_law_sample_right" (defArgs s_law_sample_right) (defBody s_law_sample_right) (defScope s_law_sample_right) .none kV45 dc45 pm45 an45 cd45 ct45), sl45⟩)
    (c45 : PySem.W.codeIn K cd45 "_law_sample_right" = true)
    (k45 : PySem.W.keepIn K (.ref f45) = true)
    (a46 : PySem.W.nsIn K mainGlobals "_law_append_right" = some (some (.ref f46)))
    (l46 : K.lookup f46 = some ⟨oc46, od46, .func (PySem.W.fnOf "_law_append_right" "_law_append_right" (defArgs s_law_append_right) (defBody s_law_append_right) (defScope s_law_append_right) .none kV46 dc46 pm46 an46 cd46 ct46), sl46⟩)
    (c46 : PySem.W.codeIn K cd46 "_law_append_right" = true)
    (k46 : PySem.W.keepIn K (.ref f46) = true)
    (a47 : PySem.W.nsIn K mainGlobals "law" = some (some (.ref f47)))
    (l47 : K.lookup f47 = some ⟨oc47, od47, .func (PySem.W.fnOf "law" "law" (defArgs s_law) (defBody s_law) (defScope s_law) .none kV47 dc47 pm47 an47 (.ref cL47) ct47), sl47⟩)
    (c47 : PySem.W.codeIn K (.ref cL47) "law" = true)
    (k47 : PySem.W.keepIn K (.ref f47) = true)
    (lL47 : K.lookup cL47 = some ⟨eL47, ddL47, .fields vsL47, slL47⟩)
    (vL47 : (vsL47[11]? : Option Value) = some (.ref PL47))
    (hL47 : PySem.W.codeHdIn K cL47 PL47 = true)
    (nL47 : K.lookup PL47 = none)
    (aO0 : PySem.W.nsIn K mainGlobals "Clip" = some (some (.ref CO0)))
    (pgO0 : PySem.W.plainGet K CO0 Str.empty = true)
    (hdO0 : PySem.W.hasDictIn K CO0 = true)
    (poO0 : PySem.W.plainOver K CO0 = true)
    (saO0 : PySem.W.findIn K (.ref CO0) "__setattr__" = some (some (.builtin "object.__setattr__")))
    (mkO0 : PySem.W.makesIn K CO0 = true)
    (kcO0 : PySem.W.keepIn K (.ref CO0) = true)
    (sf0 : PySem.W.selfFirst K CO0 = true)
    (xa0 : PySem.W.findIn K (.ref CO0) "__class__" = some (some (.builtin "object.__class__")))
    (xm0 : PySem.W.mroIn K CO0 (.type "object") = some true)
    (xi0 : PySem.W.isClsIn K CO0 = true)
    (xt0 : PySem.W.typeIn K (.ref CO0) = some (.type "type"))
    (xs0NoneType : PySem.W.subIn K (.type "NoneType") (.ref CO0) = some false)
    (xs0bool : PySem.W.subIn K (.type "bool") (.ref CO0) = some false)
    (xs0int : PySem.W.subIn K (.type "int") (.ref CO0) = some false)
    (xs0str : PySem.W.subIn K (.type "str") (.ref CO0) = some false)
    (xs0list : PySem.W.subIn K (.type "list") (.ref CO0) = some false)
    (xs0tuple : PySem.W.subIn K (.type "tuple") (.ref CO0) = some false)
    (xs0dict : PySem.W.subIn K (.type "dict") (.ref CO0) = some false)
    (xn0 : PySem.W.specialIn K (.builtin "object.__class__") "__get__" = some (some (.builtin "getset_descriptor.__get__")))
    (xk0 : PySem.W.takesIn K (.builtin "object.__class__") = some true)
    (xe0 : PySem.W.findIn K (.ref CO0) "__ne__" = some (some (.builtin "object.__ne__")))
    (xo0 : PySem.W.subIn K (.ref CO0) (.type "int") = some false)
    (xq0 : PySem.W.subIn K (.ref CO0) (.type "bool") = some false)
    (xr0 : PySem.W.subIn K (.ref CO0) (.type "tuple") = some false)
    (xp0 : PySem.W.findIn K (.ref CO0) "__radd__" = some none)
    (nO0_coder : PySem.W.findIn K (.ref CO0) "_coder" = some none)
    (nO0_codes : PySem.W.findIn K (.ref CO0) "_codes" = some none)
    (nO0_state : PySem.W.findIn K (.ref CO0) "_state" = some none)
    (a48 : PySem.W.findIn K (.ref CO0) "__init__" = some (some (.ref f48)))
    (i48 : PySem.W.isFn K (.ref f48) = true)
    (l48 : K.lookup f48 = some ⟨oc48, od48, .func (PySem.W.fnOf "__init__" "Clip.__init__" (defArgs s_Clip_init) (defBody s_Clip_init) (defScope s_Clip_init) (.ref TD48) (.ref D48) dc48 pm48 an48 cd48 ct48), sl48⟩)
    (c48 : PySem.W.codeIn K cd48 "Clip.__init__" = true)
    (k48 : PySem.W.keepIn K (.ref f48) = true)
    (n48 : PySem.W.nsIn K D48 "state" = some (some (.ref q48)))
    (t48 : K.lookup q48 = some ⟨.type "tuple", dd48, .seq #[.int 0 tq48, .int 0 tr48] nq48, sq48⟩)
    (e48 : K.lookup TD48 = some ⟨.type "tuple", de48, .seq #[.ref qe48] ne48, se48⟩)
    (z48 : K.lookup qe48 = some ⟨.type "tuple", dz48, .seq #[] nz48, sz48⟩)
    (a49 : PySem.W.findIn K (.ref CO0) "coder" = some (some (.ref p49)))
    (gt49 : PySem.W.specialIn K (.ref p49) "__get__" = some (some (.builtin "property.__get__")))
    (tk49 : PySem.W.takesIn K (.ref p49) = some true)
    (rc49 : PySem.W.recIn K p49 "property" = some (.ref f49 :: rest49))
    (l49 : K.lookup f49 = some ⟨oc49, od49, .func (PySem.W.fnOf "coder" "Clip.coder" (defArgs s_Clip_coder) (defBody s_Clip_coder) (defScope s_Clip_coder) .none kV49 dc49 pm49 an49 cd49 ct49), sl49⟩)
    (c49 : PySem.W.codeIn K cd49 "Clip.coder" = true)
    (k49 : PySem.W.keepIn K (.ref f49) = true)
    (a50 : PySem.W.findIn K (.ref CO0) "codes" = some (some (.ref p50)))
    (gt50 : PySem.W.specialIn K (.ref p50) "__get__" = some (some (.builtin "property.__get__")))
    (tk50 : PySem.W.takesIn K (.ref p50) = some true)
    (rc50 : PySem.W.recIn K p50 "property" = some (.ref f50 :: rest50))
    (l50 : K.lookup f50 = some ⟨oc50, od50, .func (PySem.W.fnOf "codes" "Clip.codes" (defArgs s_Clip_codes) (defBody s_Clip_codes) (defScope s_Clip_codes) .none kV50 dc50 pm50 an50 cd50 ct50), sl50⟩)
    (c50 : PySem.W.codeIn K cd50 "Clip.codes" = true)
    (k50 : PySem.W.keepIn K (.ref f50) = true)
    (a51 : PySem.W.findIn K (.ref CO0) "state" = some (some (.ref p51)))
    (gt51 : PySem.W.specialIn K (.ref p51) "__get__" = some (some (.builtin "property.__get__")))
    (tk51 : PySem.W.takesIn K (.ref p51) = some true)
    (rc51 : PySem.W.recIn K p51 "property" = some (.ref f51 :: rest51))
    (l51 : K.lookup f51 = some ⟨oc51, od51, .func (PySem.W.fnOf "state" "Clip.state" (defArgs s_Clip_state) (defBody s_Clip_state) (defScope s_Clip_state) .none kV51 dc51 pm51 an51 cd51 ct51), sl51⟩)
    (c51 : PySem.W.codeIn K cd51 "Clip.state" = true)
    (k51 : PySem.W.keepIn K (.ref f51) = true)
    (a52 : PySem.W.findIn K (.ref CO0) "heard" = some (some (.ref f52)))
    (i52 : PySem.W.isFn K (.ref f52) = true)
    (l52 : K.lookup f52 = some ⟨oc52, od52, .func (PySem.W.fnOf "heard" "Clip.heard" (defArgs s_Clip_heard) (defBody s_Clip_heard) (defScope s_Clip_heard) .none kV52 dc52 pm52 an52 cd52 ct52), sl52⟩)
    (c52 : PySem.W.codeIn K cd52 "Clip.heard" = true)
    (k52 : PySem.W.keepIn K (.ref f52) = true)
    (a53 : PySem.W.findIn K (.ref CO0) "last" = some (some (.ref f53)))
    (i53 : PySem.W.isFn K (.ref f53) = true)
    (l53 : K.lookup f53 = some ⟨oc53, od53, .func (PySem.W.fnOf "last" "Clip.last" (defArgs s_Clip_last) (defBody s_Clip_last) (defScope s_Clip_last) .none kV53 dc53 pm53 an53 cd53 ct53), sl53⟩)
    (c53 : PySem.W.codeIn K cd53 "Clip.last" = true)
    (k53 : PySem.W.keepIn K (.ref f53) = true)
    (a54 : PySem.W.findIn K (.ref CO0) "stretch" = some (some (.ref f54)))
    (i54 : PySem.W.isFn K (.ref f54) = true)
    (l54 : K.lookup f54 = some ⟨oc54, od54, .func (PySem.W.fnOf "stretch" "Clip.stretch" (defArgs s_Clip_stretch) (defBody s_Clip_stretch) (defScope s_Clip_stretch) .none kV54 dc54 pm54 an54 cd54 ct54), sl54⟩)
    (c54 : PySem.W.codeIn K cd54 "Clip.stretch" = true)
    (k54 : PySem.W.keepIn K (.ref f54) = true)
    (a55 : PySem.W.findIn K (.ref CO0) "copy" = some (some (.ref f55)))
    (i55 : PySem.W.isFn K (.ref f55) = true)
    (l55 : K.lookup f55 = some ⟨oc55, od55, .func (PySem.W.fnOf "copy" "Clip.copy" (defArgs s_Clip_copy) (defBody s_Clip_copy) (defScope s_Clip_copy) .none kV55 dc55 pm55 an55 cd55 ct55), sl55⟩)
    (c55 : PySem.W.codeIn K cd55 "Clip.copy" = true)
    (k55 : PySem.W.keepIn K (.ref f55) = true)
    (a56 : PySem.W.findIn K (.ref CO0) "begins" = some (some (.ref f56)))
    (i56 : PySem.W.isFn K (.ref f56) = true)
    (l56 : K.lookup f56 = some ⟨oc56, od56, .func (PySem.W.fnOf "begins" "Clip.begins" (defArgs s_Clip_begins) (defBody s_Clip_begins) (defScope s_Clip_begins) .none kV56 dc56 pm56 an56 cd56 ct56), sl56⟩)
    (c56 : PySem.W.codeIn K cd56 "Clip.begins" = true)
    (k56 : PySem.W.keepIn K (.ref f56) = true)
    (a57 : PySem.W.findIn K (.ref CO0) "__len__" = some (some (.ref f57)))
    (i57 : PySem.W.isFn K (.ref f57) = true)
    (l57 : K.lookup f57 = some ⟨oc57, od57, .func (PySem.W.fnOf "__len__" "Clip.__len__" (defArgs s_Clip_len) (defBody s_Clip_len) (defScope s_Clip_len) .none kV57 dc57 pm57 an57 cd57 ct57), sl57⟩)
    (c57 : PySem.W.codeIn K cd57 "Clip.__len__" = true)
    (k57 : PySem.W.keepIn K (.ref f57) = true)
    (a58 : PySem.W.findIn K (.ref CO0) "__eq__" = some (some (.ref f58)))
    (i58 : PySem.W.isFn K (.ref f58) = true)
    (l58 : K.lookup f58 = some ⟨oc58, od58, .func (PySem.W.fnOf "__eq__" "Clip.__eq__" (defArgs s_Clip_eq) (defBody s_Clip_eq) (defScope s_Clip_eq) .none kV58 dc58 pm58 an58 cd58 ct58), sl58⟩)
    (c58 : PySem.W.codeIn K cd58 "Clip.__eq__" = true)
    (k58 : PySem.W.keepIn K (.ref f58) = true)
    (a59 : PySem.W.findIn K (.ref CO0) "__contains__" = some (some (.ref f59)))
    (i59 : PySem.W.isFn K (.ref f59) = true)
    (l59 : K.lookup f59 = some ⟨oc59, od59, .func (PySem.W.fnOf "__contains__" "Clip.__contains__" (defArgs s_Clip_contains) (defBody s_Clip_contains) (defScope s_Clip_contains) .none kV59 dc59 pm59 an59 cd59 ct59), sl59⟩)
    (c59 : PySem.W.codeIn K cd59 "Clip.__contains__" = true)
    (k59 : PySem.W.keepIn K (.ref f59) = true)
    (a60 : PySem.W.findIn K (.ref CO0) "__add__" = some (some (.ref f60)))
    (i60 : PySem.W.isFn K (.ref f60) = true)
    (l60 : K.lookup f60 = some ⟨oc60, od60, .func (PySem.W.fnOf "__add__" "Clip.__add__" (defArgs s_Clip_add) (defBody s_Clip_add) (defScope s_Clip_add) .none kV60 dc60 pm60 an60 cd60 ct60), sl60⟩)
    (c60 : PySem.W.codeIn K cd60 "Clip.__add__" = true)
    (k60 : PySem.W.keepIn K (.ref f60) = true)
    (a61 : PySem.W.findIn K (.ref CO0) "__mul__" = some (some (.ref f61)))
    (i61 : PySem.W.isFn K (.ref f61) = true)
    (l61 : K.lookup f61 = some ⟨oc61, od61, .func (PySem.W.fnOf "__mul__" "Clip.__mul__" (defArgs s_Clip_mul) (defBody s_Clip_mul) (defScope s_Clip_mul) .none kV61 dc61 pm61 an61 cd61 ct61), sl61⟩)
    (c61 : PySem.W.codeIn K cd61 "Clip.__mul__" = true)
    (k61 : PySem.W.keepIn K (.ref f61) = true)
    (a62 : PySem.W.findIn K (.ref CO0) "__rmul__" = some (some (.ref f62)))
    (i62 : PySem.W.isFn K (.ref f62) = true)
    (l62 : K.lookup f62 = some ⟨oc62, od62, .func (PySem.W.fnOf "__rmul__" "Clip.__rmul__" (defArgs s_Clip_rmul) (defBody s_Clip_rmul) (defScope s_Clip_rmul) .none kV62 dc62 pm62 an62 cd62 ct62), sl62⟩)
    (c62 : PySem.W.codeIn K cd62 "Clip.__rmul__" = true)
    (k62 : PySem.W.keepIn K (.ref f62) = true)
    (a63 : PySem.W.findIn K (.ref CO0) "__iadd__" = some (some (.ref f63)))
    (i63 : PySem.W.isFn K (.ref f63) = true)
    (l63 : K.lookup f63 = some ⟨oc63, od63, .func (PySem.W.fnOf "__iadd__" "Clip.__iadd__" (defArgs s_Clip_iadd) (defBody s_Clip_iadd) (defScope s_Clip_iadd) .none kV63 dc63 pm63 an63 cd63 ct63), sl63⟩)
    (c63 : PySem.W.codeIn K cd63 "Clip.__iadd__" = true)
    (k63 : PySem.W.keepIn K (.ref f63) = true)
    (nP44x47 : PL44 ≠ PL47)
    (z_bool : PySem.W.nsIn K mainGlobals "bool" = some none)
    (z_enumerate : PySem.W.nsIn K mainGlobals "enumerate" = some none)
    (z_int : PySem.W.nsIn K mainGlobals "int" = some none)
    (z_isinstance : PySem.W.nsIn K mainGlobals "isinstance" = some none)
    (z_len : PySem.W.nsIn K mainGlobals "len" = some none)
    (z_list : PySem.W.nsIn K mainGlobals "list" = some none)
    (z_max : PySem.W.nsIn K mainGlobals "max" = some none)
    (z_min : PySem.W.nsIn K mainGlobals "min" = some none)
    (z_range : PySem.W.nsIn K mainGlobals "range" = some none)
    (z_repr : PySem.W.nsIn K mainGlobals "repr" = some none)
    (z_tuple : PySem.W.nsIn K mainGlobals "tuple" = some none)
    (aC0 : PySem.W.nsIn K mainGlobals "BadCoder" = some (some (.ref C0)))
    (xC0 : K.lookup C0 = some (excClassObj nmC0 qC0 C0 N0 bsC0 [.type "ValueError", .type "Exception", .type "BaseException", .type "object"] true snC0 subC0 abC0 colC0 ddC0 m0C0 m1C0 m2C0 m3C0 m5C0 "ValueError.__new__"))
    (saC0 : PySem.W.findIn K (.ref C0) "__setattr__" = some (some (.builtin "object.__setattr__")))
    (iC0 : PySem.W.findIn K (.ref C0) "__init__" = some (some (.ref g0)))
    (tI0 : PySem.W.typeIn K (.ref g0) = some (.type "function"))
    (lC0 : K.lookup g0 = some ⟨ocC0, odC0, .func (PySem.W.fnOf "__init__" "BadCoder.__init__" (defArgs si_BadCoder) (defBody si_BadCoder) (defScope si_BadCoder) .none kVC0 dcC0 pmC0 anC0 cdC0 ctC0), slC0⟩)
    (cC0 : PySem.W.codeIn K cdC0 "BadCoder.__init__" = true)
    (kI0 : PySem.W.keepIn K (.ref g0) = true)
    (kC0 : PySem.W.keepIn K (.ref C0) = true)
    (eC0 : PySem.W.subIn K (.ref C0) (.type "BaseException") = some true)
    (tC0 : PySem.W.typeIn K (.ref C0) = some (.type "type"))
    (isC0 : PySem.W.isClsIn K C0 = true)
    (sC0 : PySem.W.subIn K (.ref C0) (.ref C0) = some true)
    (gaC0 : PySem.W.findIn K (.ref C0) "__getattribute__" = some (some (.builtin "BaseException.__getattribute__")))
    (ggC0 : PySem.W.findIn K (.ref C0) "__getattr__" = some none)
    (hdC0 : PySem.W.hasDictIn K C0 = true)
    (nC0part : PySem.W.findIn K (.ref C0) "part" = some none)
    (nC0number : PySem.W.findIn K (.ref C0) "number" = some none)
    (haC0 : PySem.W.findIn K (.ref C0) "__class__" = some (some (.builtin "object.__class__")))
    (hmC0 : PySem.W.mroIn K C0 (.type "object") = some true)
    (aC1 : PySem.W.nsIn K mainGlobals "BadRow" = some (some (.ref C1)))
    (xC1 : K.lookup C1 = some (excClassObj nmC1 qC1 C1 N1 bsC1 [.type "ValueError", .type "Exception", .type "BaseException", .type "object"] true snC1 subC1 abC1 colC1 ddC1 m0C1 m1C1 m2C1 m3C1 m5C1 "ValueError.__new__"))
    (saC1 : PySem.W.findIn K (.ref C1) "__setattr__" = some (some (.builtin "object.__setattr__")))
    (iC1 : PySem.W.findIn K (.ref C1) "__init__" = some (some (.ref g1)))
    (tI1 : PySem.W.typeIn K (.ref g1) = some (.type "function"))
    (lC1 : K.lookup g1 = some ⟨ocC1, odC1, .func (PySem.W.fnOf "__init__" "BadRow.__init__" (defArgs si_BadRow) (defBody si_BadRow) (defScope si_BadRow) .none kVC1 dcC1 pmC1 anC1 cdC1 ctC1), slC1⟩)
    (cC1 : PySem.W.codeIn K cdC1 "BadRow.__init__" = true)
    (kI1 : PySem.W.keepIn K (.ref g1) = true)
    (kC1 : PySem.W.keepIn K (.ref C1) = true)
    (eC1 : PySem.W.subIn K (.ref C1) (.type "BaseException") = some true)
    (tC1 : PySem.W.typeIn K (.ref C1) = some (.type "type"))
    (isC1 : PySem.W.isClsIn K C1 = true)
    (sC1 : PySem.W.subIn K (.ref C1) (.ref C1) = some true)
    (gaC1 : PySem.W.findIn K (.ref C1) "__getattribute__" = some (some (.builtin "BaseException.__getattribute__")))
    (ggC1 : PySem.W.findIn K (.ref C1) "__getattr__" = some none)
    (hdC1 : PySem.W.hasDictIn K C1 = true)
    (nC1row : PySem.W.findIn K (.ref C1) "row" = some none)
    (nC1word : PySem.W.findIn K (.ref C1) "word" = some none)
    (haC1 : PySem.W.findIn K (.ref C1) "__class__" = some (some (.builtin "object.__class__")))
    (hmC1 : PySem.W.mroIn K C1 (.type "object") = some true)
    (aC2 : PySem.W.nsIn K mainGlobals "TooGreat" = some (some (.ref C2)))
    (xC2 : K.lookup C2 = some (excClassObj nmC2 qC2 C2 N2 bsC2 oeTail true snC2 subC2 abC2 colC2 ddC2 m0C2 m1C2 m2C2 m3C2 m5C2 "OverflowError.__new__"))
    (saC2 : PySem.W.findIn K (.ref C2) "__setattr__" = some (some (.builtin "object.__setattr__")))
    (iC2 : PySem.W.findIn K (.ref C2) "__init__" = some (some (.ref g2)))
    (tI2 : PySem.W.typeIn K (.ref g2) = some (.type "function"))
    (lC2 : K.lookup g2 = some ⟨ocC2, odC2, .func (PySem.W.fnOf "__init__" "TooGreat.__init__" (defArgs si_TooGreat) (defBody si_TooGreat) (defScope si_TooGreat) .none kVC2 dcC2 pmC2 anC2 cdC2 ctC2), slC2⟩)
    (cC2 : PySem.W.codeIn K cdC2 "TooGreat.__init__" = true)
    (kI2 : PySem.W.keepIn K (.ref g2) = true)
    (kC2 : PySem.W.keepIn K (.ref C2) = true)
    (eC2 : PySem.W.subIn K (.ref C2) (.type "BaseException") = some true)
    (tC2 : PySem.W.typeIn K (.ref C2) = some (.type "type"))
    (isC2 : PySem.W.isClsIn K C2 = true)
    (sC2 : PySem.W.subIn K (.ref C2) (.ref C2) = some true)
    (gaC2 : PySem.W.findIn K (.ref C2) "__getattribute__" = some (some (.builtin "BaseException.__getattribute__")))
    (ggC2 : PySem.W.findIn K (.ref C2) "__getattr__" = some none)
    (hdC2 : PySem.W.hasDictIn K C2 = true)
    (nC2most : PySem.W.findIn K (.ref C2) "most" = some none)
    (haC2 : PySem.W.findIn K (.ref C2) "__class__" = some (some (.builtin "object.__class__")))
    (hmC2 : PySem.W.mroIn K C2 (.type "object") = some true)
    (aC3 : PySem.W.nsIn K mainGlobals "OutOfPlace" = some (some (.ref C3)))
    (xC3 : K.lookup C3 = some (excClassObj nmC3 qC3 C3 N3 bsC3 [.type "ValueError", .type "Exception", .type "BaseException", .type "object"] true snC3 subC3 abC3 colC3 ddC3 m0C3 m1C3 m2C3 m3C3 m5C3 "ValueError.__new__"))
    (saC3 : PySem.W.findIn K (.ref C3) "__setattr__" = some (some (.builtin "object.__setattr__")))
    (iC3 : PySem.W.findIn K (.ref C3) "__init__" = some (some (.ref g3)))
    (tI3 : PySem.W.typeIn K (.ref g3) = some (.type "function"))
    (lC3 : K.lookup g3 = some ⟨ocC3, odC3, .func (PySem.W.fnOf "__init__" "OutOfPlace.__init__" (defArgs si_OutOfPlace) (defBody si_OutOfPlace) (defScope si_OutOfPlace) .none kVC3 dcC3 pmC3 anC3 cdC3 ctC3), slC3⟩)
    (cC3 : PySem.W.codeIn K cdC3 "OutOfPlace.__init__" = true)
    (kI3 : PySem.W.keepIn K (.ref g3) = true)
    (kC3 : PySem.W.keepIn K (.ref C3) = true)
    (eC3 : PySem.W.subIn K (.ref C3) (.type "BaseException") = some true)
    (tC3 : PySem.W.typeIn K (.ref C3) = some (.type "type"))
    (isC3 : PySem.W.isClsIn K C3 = true)
    (sC3 : PySem.W.subIn K (.ref C3) (.ref C3) = some true)
    (gaC3 : PySem.W.findIn K (.ref C3) "__getattribute__" = some (some (.builtin "BaseException.__getattribute__")))
    (ggC3 : PySem.W.findIn K (.ref C3) "__getattr__" = some none)
    (hdC3 : PySem.W.hasDictIn K C3 = true)
    (haC3 : PySem.W.findIn K (.ref C3) "__class__" = some (some (.builtin "object.__class__")))
    (hmC3 : PySem.W.mroIn K C3 (.type "object") = some true)
    (aC4 : PySem.W.nsIn K mainGlobals "NoSeam" = some (some (.ref C4)))
    (xC4 : K.lookup C4 = some (excClassObj nmC4 qC4 C4 N4 bsC4 [.type "ValueError", .type "Exception", .type "BaseException", .type "object"] true snC4 subC4 abC4 colC4 ddC4 m0C4 m1C4 m2C4 m3C4 m5C4 "ValueError.__new__"))
    (saC4 : PySem.W.findIn K (.ref C4) "__setattr__" = some (some (.builtin "object.__setattr__")))
    (iC4 : PySem.W.findIn K (.ref C4) "__init__" = some (some (.ref g4)))
    (tI4 : PySem.W.typeIn K (.ref g4) = some (.type "function"))
    (lC4 : K.lookup g4 = some ⟨ocC4, odC4, .func (PySem.W.fnOf "__init__" "NoSeam.__init__" (defArgs si_NoSeam) (defBody si_NoSeam) (defScope si_NoSeam) .none kVC4 dcC4 pmC4 anC4 cdC4 ctC4), slC4⟩)
    (cC4 : PySem.W.codeIn K cdC4 "NoSeam.__init__" = true)
    (kI4 : PySem.W.keepIn K (.ref g4) = true)
    (kC4 : PySem.W.keepIn K (.ref C4) = true)
    (eC4 : PySem.W.subIn K (.ref C4) (.type "BaseException") = some true)
    (tC4 : PySem.W.typeIn K (.ref C4) = some (.type "type"))
    (isC4 : PySem.W.isClsIn K C4 = true)
    (sC4 : PySem.W.subIn K (.ref C4) (.ref C4) = some true)
    (gaC4 : PySem.W.findIn K (.ref C4) "__getattribute__" = some (some (.builtin "BaseException.__getattribute__")))
    (ggC4 : PySem.W.findIn K (.ref C4) "__getattr__" = some none)
    (hdC4 : PySem.W.hasDictIn K C4 = true)
    (haC4 : PySem.W.findIn K (.ref C4) "__class__" = some (some (.builtin "object.__class__")))
    (hmC4 : PySem.W.mroIn K C4 (.type "object") = some true)
    (aC5 : PySem.W.nsIn K mainGlobals "BadPaper" = some (some (.ref C5)))
    (eC5 : PySem.W.subIn K (.ref C5) (.type "BaseException") = some true)
    (tC5 : PySem.W.typeIn K (.ref C5) = some (.type "type"))
    (isC5 : PySem.W.isClsIn K C5 = true)
    (aC6 : PySem.W.nsIn K mainGlobals "BadByte" = some (some (.ref C6)))
    (eC6 : PySem.W.subIn K (.ref C6) (.type "BaseException") = some true)
    (tC6 : PySem.W.typeIn K (.ref C6) = some (.type "type"))
    (isC6 : PySem.W.isClsIn K C6 = true)
    (aC7 : PySem.W.nsIn K mainGlobals "Nothing" = some (some (.ref C7)))
    (eC7 : PySem.W.subIn K (.ref C7) (.type "BaseException") = some true)
    (tC7 : PySem.W.typeIn K (.ref C7) = some (.type "type"))
    (isC7 : PySem.W.isClsIn K C7 = true)
    (hnO : PySem.W.specialIn K (.builtin "object.__class__") "__get__" = some (some (.builtin "getset_descriptor.__get__")))
    (htO : PySem.W.takesIn K (.builtin "object.__class__") = some true)
    (sC0x1 : PySem.W.subIn K (.ref C0) (.ref C1) = some false)
    (sC0x2 : PySem.W.subIn K (.ref C0) (.ref C2) = some false)
    (sC0x3 : PySem.W.subIn K (.ref C0) (.ref C3) = some false)
    (sC0x4 : PySem.W.subIn K (.ref C0) (.ref C4) = some false)
    (sC0x5 : PySem.W.subIn K (.ref C0) (.ref C5) = some false)
    (sC0x6 : PySem.W.subIn K (.ref C0) (.ref C6) = some false)
    (sC0x7 : PySem.W.subIn K (.ref C0) (.ref C7) = some false)
    (sC1x0 : PySem.W.subIn K (.ref C1) (.ref C0) = some false)
    (sC1x2 : PySem.W.subIn K (.ref C1) (.ref C2) = some false)
    (sC1x3 : PySem.W.subIn K (.ref C1) (.ref C3) = some false)
    (sC1x4 : PySem.W.subIn K (.ref C1) (.ref C4) = some false)
    (sC1x5 : PySem.W.subIn K (.ref C1) (.ref C5) = some false)
    (sC1x6 : PySem.W.subIn K (.ref C1) (.ref C6) = some false)
    (sC1x7 : PySem.W.subIn K (.ref C1) (.ref C7) = some false)
    (sC2x0 : PySem.W.subIn K (.ref C2) (.ref C0) = some false)
    (sC2x1 : PySem.W.subIn K (.ref C2) (.ref C1) = some false)
    (sC2x3 : PySem.W.subIn K (.ref C2) (.ref C3) = some false)
    (sC2x4 : PySem.W.subIn K (.ref C2) (.ref C4) = some false)
    (sC2x5 : PySem.W.subIn K (.ref C2) (.ref C5) = some false)
    (sC2x6 : PySem.W.subIn K (.ref C2) (.ref C6) = some false)
    (sC2x7 : PySem.W.subIn K (.ref C2) (.ref C7) = some false)
    (sC3x0 : PySem.W.subIn K (.ref C3) (.ref C0) = some false)
    (sC3x1 : PySem.W.subIn K (.ref C3) (.ref C1) = some false)
    (sC3x2 : PySem.W.subIn K (.ref C3) (.ref C2) = some false)
    (sC3x4 : PySem.W.subIn K (.ref C3) (.ref C4) = some false)
    (sC3x5 : PySem.W.subIn K (.ref C3) (.ref C5) = some false)
    (sC3x6 : PySem.W.subIn K (.ref C3) (.ref C6) = some false)
    (sC3x7 : PySem.W.subIn K (.ref C3) (.ref C7) = some false)
    (sC4x0 : PySem.W.subIn K (.ref C4) (.ref C0) = some false)
    (sC4x1 : PySem.W.subIn K (.ref C4) (.ref C1) = some false)
    (sC4x2 : PySem.W.subIn K (.ref C4) (.ref C2) = some false)
    (sC4x3 : PySem.W.subIn K (.ref C4) (.ref C3) = some false)
    (sC4x5 : PySem.W.subIn K (.ref C4) (.ref C5) = some false)
    (sC4x6 : PySem.W.subIn K (.ref C4) (.ref C6) = some false)
    (sC4x7 : PySem.W.subIn K (.ref C4) (.ref C7) = some false)
    (vV : PySem.W.findCls K (.type "ValueError") (.type "type") "__init__" = some (.val (.builtin "ValueError.__init__")))
    (zV : PySem.W.nsIn K mainGlobals "ValueError" = some none)
    (mc : PySem.W.nsIn K mainGlobals "MOST_CODES" = some (some (.int 2000 tMC))) :
    ∃ (fd : FuncData) (cs : List (Addr × Addr)), (∀ p ∈ cs, h.get? p.2 = some (tabO #[])) ∧ (∀ p ∈ cs, K.lookup p.2 = none) ∧ (∀ p ∈ cs, PySem.W.CodeHd h p.1 p.2) ∧ (∀ (s : Shared) (v : Value), BindsTo s fd ⟨[v], []⟩ [("script", v)]) ∧ ∀ base : Heap, K.In base → base.Ns mainGlobals mg → (∀ p ∈ cs, LamX.TabB base mg p.1 p.2) → FnG l.prog w K mg base 18 fa fd ["script"] (sp_law K (cs.map (·.2))) := by
  have e := hfa.symm.trans (PySem.W.mg_of X G a47)
  cases e
  have F0 := fun_mk (st := s_wall) l0 c0 k0
  have B0 := F0.binds (ps := ["k"]) fun _ _ _ _ _ _ us hl => match us, hl with | [_], _ => rfl
  have F1 := fun_mk (st := s_is_integer) l1 c1 k1
  have B1 := F1.binds (ps := ["thing"]) fun _ _ _ _ _ _ us hl => match us, hl with | [_], _ => rfl
  have F2 := fun_mk (st := s_is_between) l2 c2 k2
  have B2 := F2.binds (ps := ["thing", "least", "most"]) fun _ _ _ _ _ _ us hl => match us, hl with | [_, _, _], _ => rfl
  have F3 := fun_mk (st := s_is_pair) l3 c3 k3
  have B3 := F3.binds (ps := ["thing"]) fun _ _ _ _ _ _ us hl => match us, hl with | [_], _ => rfl
  have F4 := fun_mk (st := s_is_code) l4 c4 k4
  have B4 := F4.binds (ps := ["coder", "thing"]) fun _ _ _ _ _ _ us hl => match us, hl with | [_, _], _ => rfl
  have F5 := fun_mk (st := s_is_place) l5 c5 k5
  have B5 := F5.binds (ps := ["coder", "thing"]) fun _ _ _ _ _ _ us hl => match us, hl with | [_, _], _ => rfl
  have F6 := fun_mk (st := s_is_state) l6 c6 k6
  have B6 := F6.binds (ps := ["coder", "thing"]) fun _ _ _ _ _ _ us hl => match us, hl with | [_, _], _ => rfl
  have F7 := fun_mk (st := s_need_state) l7 c7 k7
  have B7 := F7.binds (ps := ["coder", "thing"]) fun _ _ _ _ _ _ us hl => match us, hl with | [_, _], _ => rfl
  have F8 := fun_mk (st := s_need_row) l8 c8 k8
  have B8 := F8.binds (ps := ["coder", "thing"]) fun _ _ _ _ _ _ us hl => match us, hl with | [_, _], _ => rfl
  have F9 := fun_mk (st := s_need_few_states) l9 c9 k9
  have B9 := F9.binds (ps := ["coder", "most"]) fun _ _ _ _ _ _ us hl => match us, hl with | [_, _], _ => rfl
  have F10 := fun_mk (st := s_all_states) l10 c10 k10
  have B10 := F10.binds (ps := ["coder"]) fun _ _ _ _ _ _ us hl => match us, hl with | [_], _ => rfl
  have F11 := fun_mk (st := s_rounded) l11 c11 k11
  have B11 := F11.binds (ps := ["number", "divisor"]) fun _ _ _ _ _ _ us hl => match us, hl with | [_, _], _ => rfl
  have F12 := fun_mk (st := s_limited) l12 c12 k12
  have B12 := F12.binds (ps := ["number", "least", "most"]) fun _ _ _ _ _ _ us hl => match us, hl with | [_, _, _], _ => rfl
  have F13 := fun_mk (st := s_change_at) l13 c13 k13
  have B13 := F13.binds (ps := ["coder", "code", "place"]) fun _ _ _ _ _ _ us hl => match us, hl with | [_, _, _], _ => rfl
  have F14 := fun_mk (st := s_faded) l14 c14 k14
  have B14 := F14.binds (ps := ["level", "fade"]) fun _ _ _ _ _ _ us hl => match us, hl with | [_, _], _ => rfl
  have F15 := fun_mk (st := s_state_behind) l15 c15 k15
  have B15 := F15.binds (ps := ["coder", "state", "code"]) fun _ _ _ _ _ _ us hl => match us, hl with | [_, _, _], _ => rfl
  have F16 := fun_mk (st := s_state_behind_row) l16 c16 k16
  have B16 := F16.binds (ps := ["coder", "row", "state"]) fun _ _ _ _ _ _ us hl => match us, hl with | [_, _, _], _ => rfl
  have F17 := fun_mk (st := s_samples_along) l17 c17 k17
  have B17 := F17.binds (ps := ["coder", "row", "state"]) fun _ _ _ _ _ _ us hl => match us, hl with | [_, _, _], _ => rfl
  have F18 := fun_mk (st := s_need_coder) l18 c18 k18
  have B18 := F18.binds (ps := ["thing"]) fun _ _ _ _ _ _ us hl => match us, hl with | [_], _ => rfl
  have F19 := fun_mk (st := s_first_fault) l19 c19 k19
  have B19 := F19.binds (ps := ["thing"]) fun _ _ _ _ _ _ us hl => match us, hl with | [_], _ => rfl
  have F20 := fun_mk (st := s_fault_of_steps) l20 c20 k20
  have B20 := F20.binds (ps := ["steps"]) fun _ _ _ _ _ _ us hl => match us, hl with | [_], _ => rfl
  have F21 := fun_mk (st := s_fault_of_moves) l21 c21 k21
  have B21 := F21.binds (ps := ["moves"]) fun _ _ _ _ _ _ us hl => match us, hl with | [_], _ => rfl
  have F22 := fun_mk (st := s_is_tuple_of) l22 c22 k22
  have B22 := F22.binds (ps := ["thing", "least", "most"]) fun _ _ _ _ _ _ us hl => match us, hl with | [_, _, _], _ => rfl
  have F23 := fun_mk (st := s_is_move) l23 c23 k23
  have B23 := F23.binds (ps := ["thing"]) fun _ _ _ _ _ _ us hl => match us, hl with | [_], _ => rfl
  have F24 := fun_mk (st := s_is_fade) l24 c24 k24
  have B24 := F24.binds (ps := ["thing"]) fun _ _ _ _ _ _ us hl => match us, hl with | [_], _ => rfl
  have F25 := fun_mk (st := s_row_along) l25 c25 k25
  have B25 := F25.binds (ps := ["leaders", "thing"]) fun _ _ _ _ _ _ us hl => match us, hl with | [_, _], _ => rfl
  have F26 := fun_mk (st := s_row_into) l26 c26 k26
  have B26 := F26.binds (ps := ["coder", "one", "wanted"]) fun _ _ _ _ _ _ us hl => match us, hl with | [_, _, _], _ => rfl
  have F27 := fun_mk (st := s_seam_between) l27 c27 k27
  have B27 := F27.binds (ps := ["coder", "one", "row", "state"]) fun _ _ _ _ _ _ us hl => match us, hl with | [_, _, _, _], _ => rfl
  have F28 := fun_mk (st := s_states_alike) l28 c28 k28
  have B28 := F28.binds (ps := ["coder", "row", "state"]) fun _ _ _ _ _ _ us hl => match us, hl with | [_, _, _], _ => rfl
  have F29 := fun_mk (st := s_need_few_codes) l29 c29 k29
  have B29 := F29.binds (ps := ["many"]) fun _ _ _ _ _ _ us hl => match us, hl with | [_], _ => rfl
  have F30 := fun_mk (st := s_need_repeats) l30 c30 k30
  have B30 := F30.binds (ps := ["codes", "times"]) fun _ _ _ _ _ _ us hl => match us, hl with | [_, _], _ => rfl
  have F31 := fun_mk (st := s_law_begun) l31 c31 k31
  have B31 := F31.binds (ps := ["script"]) fun _ _ _ _ _ _ us hl => match us, hl with | [_], _ => rfl
  have F32 := fun_mk (st := s_law_next) l32 c32 k32
  have B32 := F32.binds (ps := ["m", "many"]) fun _ _ _ _ _ _ us hl => match us, hl with | [_, _], _ => rfl
  have F33 := fun_mk (st := s_law_coder) l33 c33 k33
  have B33 := F33.binds (ps := ["m", "wide", "places", "codes"]) fun _ _ _ _ _ _ us hl => match us, hl with | [_, _, _, _], _ => rfl
  have F34 := fun_mk (st := s_law_parted) l34 c34 k34
  have B34 := F34.binds (ps := ["number", "by"]) fun _ _ _ _ _ _ us hl => match us, hl with | [_, _], _ => rfl
  have F35 := fun_mk (st := s_law_limited) l35 c35 k35
  have B35 := F35.binds (ps := ["number", "least", "most"]) fun _ _ _ _ _ _ us hl => match us, hl with | [_, _, _], _ => rfl
  have F36 := fun_mk (st := s_law_led) l36 c36 k36
  have B36 := F36.binds (ps := ["coder", "here", "code"]) fun _ _ _ _ _ _ us hl => match us, hl with | [_, _, _], _ => rfl
  have F37 := fun_mk (st := s_law_walked) l37 c37 k37
  have B37 := F37.binds (ps := ["coder", "here", "row"]) fun _ _ _ _ _ _ us hl => match us, hl with | [_, _, _], _ => rfl
  have F38 := fun_mk (st := s_law_some_state) l38 c38 k38
  have B38 := F38.binds (ps := ["m", "coder"]) fun _ _ _ _ _ _ us hl => match us, hl with | [_, _], _ => rfl
  have F39 := fun_mk (st := s_law_row) l39 c39 k39
  have B39 := F39.binds (ps := ["m", "coder", "many"]) fun _ _ _ _ _ _ us hl => match us, hl with | [_, _, _], _ => rfl
  have F40 := fun_mk (st := s_law_fault) l40 c40 k40
  have B40 := F40.binds (ps := ["e"]) fun _ _ _ _ _ _ us hl => match us, hl with | [_], _ => rfl
  have F41 := fun_mk (st := s_law_outcome) l41 c41 k41
  have B41 := F41.binds (ps := ["deed"]) fun _ _ _ _ _ _ us hl => match us, hl with | [_], _ => rfl
  have F42 := fun_mk (st := s_law_shown) l42 c42 k42
  have B42 := F42.binds (ps := ["clip", "coder", "row", "here"]) fun _ _ _ _ _ _ us hl => match us, hl with | [_, _, _, _], _ => rfl
  have F43 := fun_mk (st := s_law_appended) l43 c43 k43
  have B43 := F43.binds (ps := ["clip", "row"]) fun _ _ _ _ _ _ us hl => match us, hl with | [_, _], _ => rfl
  have F44 := fun_mk (st := s_law_times_right) l44 c44 k44
  have B44 := F44.binds (ps := ["m", "clip", "coder", "row", "here"]) fun _ _ _ _ _ _ us hl => match us, hl with | [_, _, _, _, _], _ => rfl
  have F45 := fun_mk (st := s_law_sample_right) l45 c45 k45
  have B45 := F45.binds (ps := ["m", "clip", "coder"]) fun _ _ _ _ _ _ us hl => match us, hl with | [_, _, _], _ => rfl
  have F46 := fun_mk (st := s_law_append_right) l46 c46 k46
  have B46 := F46.binds (ps := ["m", "clip", "coder", "row", "here"]) fun _ _ _ _ _ _ us hl => match us, hl with | [_, _, _, _, _], _ => rfl
  have F47 := fun_mk (st := s_law) l47 c47 k47
  have B47 := F47.binds (ps := ["script"]) fun _ _ _ _ _ _ us hl => match us, hl with | [_], _ => rfl
  have F48 : FunD K "__init__" "Clip.__init__" (defArgs s_Clip_init) (defBody s_Clip_init) (defScope s_Clip_init) [V.ref qe48] [("state", V.ref q48)] f48 _ := ⟨⟨_, _, .ref TD48, .ref D48, _, _, _, _, _, _, rfl, l48, c48, .inr ⟨by simp, TD48, _, [.ref qe48], _, rfl, e48, rfl, .cons rfl .nil⟩, .inr ⟨D48, rfl, fun p hp => by rw [List.mem_singleton.mp hp]; exact ⟨.ref q48, n48, rfl⟩⟩⟩, k48⟩
  obtain ⟨_, _, KB48⟩ := F48.kbinds (ps := ["self", "coder", "codes", "state"]) 3 ["state"] [] (fun us _ _ ws => us ++ ws) (by simp) (by simp) (by simp) (fun r _ _ rz => r.append rz) (fun T D doc pm an cdv ct us its mv ws hl hi hm hk => match us, hl, its, hi, mv, hm, ws, hk with | [_, _, _], _, [_], _, [], _, [_], _ => ⟨_, rfl, rfl⟩)
  obtain ⟨e48, ev48, B48⟩ := F48.binds (ps := ["self", "coder", "codes", "state"]) 3 1 (by simp) rfl (fun T D doc pm an cdv ct us its ks hl hi hk => match us, hl, its, hi, ks, hk with | [_, _, _], _, [_], _, [_], _ => ⟨_, rfl, _, _, _, _, _, _, rfl, rfl, rfl⟩) (by simp)
  obtain ⟨eb48, evb48, BB48⟩ := F48.binds (ps := ["self", "coder", "codes", "state"]) 2 0 (by simp) rfl (fun T D doc pm an cdv ct us its ks hl hi hk => match us, hl, its, hi, ks, hk with | [_, _], _, [_], _, [_], _ => ⟨_, rfl, _, _, _, _, _, _, rfl, rfl, rfl⟩) (by simp)
  have F49 := fun_mk (st := s_Clip_coder) l49 c49 k49
  have B49 := F49.binds (ps := ["self"]) fun _ _ _ _ _ _ us hl => match us, hl with | [_], _ => rfl
  have F50 := fun_mk (st := s_Clip_codes) l50 c50 k50
  have B50 := F50.binds (ps := ["self"]) fun _ _ _ _ _ _ us hl => match us, hl with | [_], _ => rfl
  have F51 := fun_mk (st := s_Clip_state) l51 c51 k51
  have B51 := F51.binds (ps := ["self"]) fun _ _ _ _ _ _ us hl => match us, hl with | [_], _ => rfl
  have F52 := fun_mk (st := s_Clip_heard) l52 c52 k52
  have B52 := F52.binds (ps := ["self"]) fun _ _ _ _ _ _ us hl => match us, hl with | [_], _ => rfl
  have F53 := fun_mk (st := s_Clip_last) l53 c53 k53
  have B53 := F53.binds (ps := ["self"]) fun _ _ _ _ _ _ us hl => match us, hl with | [_], _ => rfl
  have F54 := fun_mk (st := s_Clip_stretch) l54 c54 k54
  have B54 := F54.binds (ps := ["self", "begin", "end"]) fun _ _ _ _ _ _ us hl => match us, hl with | [_, _, _], _ => rfl
  have F55 := fun_mk (st := s_Clip_copy) l55 c55 k55
  have B55 := F55.binds (ps := ["self"]) fun _ _ _ _ _ _ us hl => match us, hl with | [_], _ => rfl
  have F56 := fun_mk (st := s_Clip_begins) l56 c56 k56
  have B56 := F56.binds (ps := ["self", "other"]) fun _ _ _ _ _ _ us hl => match us, hl with | [_, _], _ => rfl
  have F57 := fun_mk (st := s_Clip_len) l57 c57 k57
  have B57 := F57.binds (ps := ["self"]) fun _ _ _ _ _ _ us hl => match us, hl with | [_], _ => rfl
  have F58 := fun_mk (st := s_Clip_eq) l58 c58 k58
  have B58 := F58.binds (ps := ["self", "other"]) fun _ _ _ _ _ _ us hl => match us, hl with | [_, _], _ => rfl
  have F59 := fun_mk (st := s_Clip_contains) l59 c59 k59
  have B59 := F59.binds (ps := ["self", "x"]) fun _ _ _ _ _ _ us hl => match us, hl with | [_, _], _ => rfl
  have F60 := fun_mk (st := s_Clip_add) l60 c60 k60
  have B60 := F60.binds (ps := ["self", "other"]) fun _ _ _ _ _ _ us hl => match us, hl with | [_, _], _ => rfl
  have F61 := fun_mk (st := s_Clip_mul) l61 c61 k61
  have B61 := F61.binds (ps := ["self", "other"]) fun _ _ _ _ _ _ us hl => match us, hl with | [_, _], _ => rfl
  have F62 := fun_mk (st := s_Clip_rmul) l62 c62 k62
  have B62 := F62.binds (ps := ["self", "other"]) fun _ _ _ _ _ _ us hl => match us, hl with | [_, _], _ => rfl
  have F63 := fun_mk (st := s_Clip_iadd) l63 c63 k63
  have B63 := F63.binds (ps := ["self", "other"]) fun _ _ _ _ _ _ us hl => match us, hl with | [_, _], _ => rfl
  have FI0 := fun_mk (st := si_BadCoder) lC0 cC0 kI0
  have BI0 := FI0.binds (ps := ["self", "part", "number"]) fun _ _ _ _ _ _ us hl => match us, hl with | [_, _, _], _ => rfl
  have FI1 := fun_mk (st := si_BadRow) lC1 cC1 kI1
  have BI1 := FI1.binds (ps := ["self", "row", "word"]) fun _ _ _ _ _ _ us hl => match us, hl with | [_, _, _], _ => rfl
  have FI2 := fun_mk (st := si_TooGreat) lC2 cC2 kI2
  have BI2 := FI2.binds (ps := ["self", "most"]) fun _ _ _ _ _ _ us hl => match us, hl with | [_, _], _ => rfl
  have FI3 := fun_mk (st := si_OutOfPlace) lC3 cC3 kI3
  have BI3 := FI3.binds (ps := ["self", "text"]) fun _ _ _ _ _ _ us hl => match us, hl with | [_, _], _ => rfl
  have FI4 := fun_mk (st := si_NoSeam) lC4 cC4 kI4
  have BI4 := FI4.binds (ps := ["self", "text"]) fun _ _ _ _ _ _ us hl => match us, hl with | [_, _], _ => rfl
  let T : Txt K mg := {
    f__wall := f0, d__wall := _, F__wall := F0, b__wall := B0, g__wall := PySem.W.mg_of X G a0,
    f_is_integer := f1, d_is_integer := _, F_is_integer := F1, b_is_integer := B1, g_is_integer := PySem.W.mg_of X G a1,
    f_is_between := f2, d_is_between := _, F_is_between := F2, b_is_between := B2, g_is_between := PySem.W.mg_of X G a2,
    f_is_pair := f3, d_is_pair := _, F_is_pair := F3, b_is_pair := B3, g_is_pair := PySem.W.mg_of X G a3,
    f_is_code := f4, d_is_code := _, F_is_code := F4, b_is_code := B4, g_is_code := PySem.W.mg_of X G a4,
    f_is_place := f5, d_is_place := _, F_is_place := F5, b_is_place := B5, g_is_place := PySem.W.mg_of X G a5,
    f_is_state := f6, d_is_state := _, F_is_state := F6, b_is_state := B6, g_is_state := PySem.W.mg_of X G a6,
    f_need_state := f7, d_need_state := _, F_need_state := F7, b_need_state := B7, g_need_state := PySem.W.mg_of X G a7,
    f_need_row := f8, d_need_row := _, F_need_row := F8, b_need_row := B8, g_need_row := PySem.W.mg_of X G a8,
    f_need_few_states := f9, d_need_few_states := _, F_need_few_states := F9, b_need_few_states := B9, g_need_few_states := PySem.W.mg_of X G a9,
    f_all_states := f10, d_all_states := _, F_all_states := F10, b_all_states := B10, g_all_states := PySem.W.mg_of X G a10,
    f_rounded := f11, d_rounded := _, F_rounded := F11, b_rounded := B11, g_rounded := PySem.W.mg_of X G a11,
    f_limited := f12, d_limited := _, F_limited := F12, b_limited := B12, g_limited := PySem.W.mg_of X G a12,
    f_change_at := f13, d_change_at := _, F_change_at := F13, b_change_at := B13, g_change_at := PySem.W.mg_of X G a13,
    f_faded := f14, d_faded := _, F_faded := F14, b_faded := B14, g_faded := PySem.W.mg_of X G a14,
    f_state_behind := f15, d_state_behind := _, F_state_behind := F15, b_state_behind := B15, g_state_behind := PySem.W.mg_of X G a15,
    f_state_behind_row := f16, d_state_behind_row := _, F_state_behind_row := F16, b_state_behind_row := B16, g_state_behind_row := PySem.W.mg_of X G a16,
    f_samples_along := f17, d_samples_along := _, F_samples_along := F17, b_samples_along := B17, g_samples_along := PySem.W.mg_of X G a17,
    f_need_coder := f18, d_need_coder := _, F_need_coder := F18, b_need_coder := B18, g_need_coder := PySem.W.mg_of X G a18,
    f__first_fault := f19, d__first_fault := _, F__first_fault := F19, b__first_fault := B19, g__first_fault := PySem.W.mg_of X G a19,
    f__fault_of_steps := f20, d__fault_of_steps := _, F__fault_of_steps := F20, b__fault_of_steps := B20, g__fault_of_steps := PySem.W.mg_of X G a20,
    f__fault_of_moves := f21, d__fault_of_moves := _, F__fault_of_moves := F21, b__fault_of_moves := B21, g__fault_of_moves := PySem.W.mg_of X G a21,
    f__is_tuple_of := f22, d__is_tuple_of := _, F__is_tuple_of := F22, b__is_tuple_of := B22, g__is_tuple_of := PySem.W.mg_of X G a22,
    f__is_move := f23, d__is_move := _, F__is_move := F23, b__is_move := B23, g__is_move := PySem.W.mg_of X G a23,
    f__is_fade := f24, d__is_fade := _, F__is_fade := F24, b__is_fade := B24, g__is_fade := PySem.W.mg_of X G a24,
    f_row_along := f25, d_row_along := _, F_row_along := F25, b_row_along := B25, g_row_along := PySem.W.mg_of X G a25,
    f_row_into := f26, d_row_into := _, F_row_into := F26, b_row_into := B26, g_row_into := PySem.W.mg_of X G a26,
    f_seam_between := f27, d_seam_between := _, F_seam_between := F27, b_seam_between := B27, g_seam_between := PySem.W.mg_of X G a27,
    f__states_alike := f28, d__states_alike := _, F__states_alike := F28, b__states_alike := B28, g__states_alike := PySem.W.mg_of X G a28,
    f__need_few_codes := f29, d__need_few_codes := _, F__need_few_codes := F29, b__need_few_codes := B29, g__need_few_codes := PySem.W.mg_of X G a29,
    f__need_repeats := f30, d__need_repeats := _, F__need_repeats := F30, b__need_repeats := B30, g__need_repeats := PySem.W.mg_of X G a30,
    f__law_begun := f31, d__law_begun := _, F__law_begun := F31, b__law_begun := B31, g__law_begun := PySem.W.mg_of X G a31,
    f__law_next := f32, d__law_next := _, F__law_next := F32, b__law_next := B32, g__law_next := PySem.W.mg_of X G a32,
    f__law_coder := f33, d__law_coder := _, F__law_coder := F33, b__law_coder := B33, g__law_coder := PySem.W.mg_of X G a33,
    f__law_parted := f34, d__law_parted := _, F__law_parted := F34, b__law_parted := B34, g__law_parted := PySem.W.mg_of X G a34,
    f__law_limited := f35, d__law_limited := _, F__law_limited := F35, b__law_limited := B35, g__law_limited := PySem.W.mg_of X G a35,
    f__law_led := f36, d__law_led := _, F__law_led := F36, b__law_led := B36, g__law_led := PySem.W.mg_of X G a36,
    f__law_walked := f37, d__law_walked := _, F__law_walked := F37, b__law_walked := B37, g__law_walked := PySem.W.mg_of X G a37,
    f__law_some_state := f38, d__law_some_state := _, F__law_some_state := F38, b__law_some_state := B38, g__law_some_state := PySem.W.mg_of X G a38,
    f__law_row := f39, d__law_row := _, F__law_row := F39, b__law_row := B39, g__law_row := PySem.W.mg_of X G a39,
    f__law_fault := f40, d__law_fault := _, F__law_fault := F40, b__law_fault := B40, g__law_fault := PySem.W.mg_of X G a40,
    f__law_outcome := f41, d__law_outcome := _, F__law_outcome := F41, b__law_outcome := B41, g__law_outcome := PySem.W.mg_of X G a41,
    kp_oc := k41, lk_oc := ⟨_, _, _, _, _, _, _, _, _, _, l41, c41, B41⟩,
    f__law_shown := f42, d__law_shown := _, F__law_shown := F42, b__law_shown := B42, g__law_shown := PySem.W.mg_of X G a42,
    f__law_appended := f43, d__law_appended := _, F__law_appended := F43, b__law_appended := B43, g__law_appended := PySem.W.mg_of X G a43,
    f__law_times_right := f44, d__law_times_right := _, F__law_times_right := F44, b__law_times_right := B44, g__law_times_right := PySem.W.mg_of X G a44,
    c__law_times_right := cL44, P__law_times_right := PL44, cd__law_times_right := rfl,
    f__law_sample_right := f45, d__law_sample_right := _, F__law_sample_right := F45, b__law_sample_right := B45, g__law_sample_right := PySem.W.mg_of X G a45,
    f__law_append_right := f46, d__law_append_right := _, F__law_append_right := F46, b__law_append_right := B46, g__law_append_right := PySem.W.mg_of X G a46,
    f_law := fa, d_law := _, F_law := F47, b_law := B47, g_law := hfa,
    c_law := cL47, P_law := PL47, cd_law := rfl,
    C_Clip := CO0, g_Clip := PySem.W.mg_of X G aO0, cl_Clip := ⟨pgO0, hdO0, poO0, saO0⟩, sf_Clip := sf0, ne_Clip := xe0, si_Clip := xo0, sj_Clip := xq0, sk_Clip := xr0, ra_Clip := xp0, sb_Clip := seven_of xs0NoneType xs0bool xs0int xs0str xs0list xs0tuple xs0dict, is_Clip := ⟨xa0, xn0, xk0, xm0, isc_no xi0 xt0 xs0NoneType xs0bool xs0int xs0str xs0list xs0tuple xs0dict⟩, na_Clip__coder := nO0_coder, na_Clip__codes := nO0_codes, na_Clip__state := nO0_state, f_Clip_init := f48, d_Clip_init := _, F_Clip_init := ⟨_, _, F48⟩, k_Clip_init := KB48, q_Clip_init := q48, qd_Clip_init := qe48, qs_Clip_init := fun H => .inr ⟨_, #[.int 0 tq48, .int 0 tr48], _, t48, rfl, rfl, (by show 2 ≤ sizeLine; decide), .cons ⟨_, rfl⟩ (.cons ⟨_, rfl⟩ .nil)⟩, qds_Clip_init := fun H => .inr ⟨_, #[], _, z48, rfl, rfl, (by show 0 ≤ sizeLine; decide), .nil⟩, e_Clip_init := e48, ev_Clip_init := ev48, b_Clip_init := B48, eb_Clip_init := eb48, evb_Clip_init := evb48, bb_Clip_init := BB48, mk_Clip := ⟨mkO0, a48, i48, kcO0⟩, f_Clip_coder := f49, d_Clip_coder := _, F_Clip_coder := F49, b_Clip_coder := B49, p_Clip_coder := p49, po_Clip_coder := ⟨a49, gt49, tk49, ⟨_, rc49⟩⟩, f_Clip_codes := f50, d_Clip_codes := _, F_Clip_codes := F50, b_Clip_codes := B50, p_Clip_codes := p50, po_Clip_codes := ⟨a50, gt50, tk50, ⟨_, rc50⟩⟩, f_Clip_state := f51, d_Clip_state := _, F_Clip_state := F51, b_Clip_state := B51, p_Clip_state := p51, po_Clip_state := ⟨a51, gt51, tk51, ⟨_, rc51⟩⟩, f_Clip_heard := f52, d_Clip_heard := _, F_Clip_heard := F52, b_Clip_heard := B52, me_Clip_heard := ⟨a52, i52, k52⟩, f_Clip_last := f53, d_Clip_last := _, F_Clip_last := F53, b_Clip_last := B53, me_Clip_last := ⟨a53, i53, k53⟩, f_Clip_stretch := f54, d_Clip_stretch := _, F_Clip_stretch := F54, b_Clip_stretch := B54, me_Clip_stretch := ⟨a54, i54, k54⟩, f_Clip_copy := f55, d_Clip_copy := _, F_Clip_copy := F55, b_Clip_copy := B55, me_Clip_copy := ⟨a55, i55, k55⟩, f_Clip_begins := f56, d_Clip_begins := _, F_Clip_begins := F56, b_Clip_begins := B56, me_Clip_begins := ⟨a56, i56, k56⟩, f_Clip_len := f57, d_Clip_len := _, F_Clip_len := F57, b_Clip_len := B57, at_Clip_len := a57, fn_Clip_len := i57, f_Clip_eq := f58, d_Clip_eq := _, F_Clip_eq := F58, b_Clip_eq := B58, at_Clip_eq := a58, fn_Clip_eq := i58, f_Clip_contains := f59, d_Clip_contains := _, F_Clip_contains := F59, b_Clip_contains := B59, at_Clip_contains := a59, fn_Clip_contains := i59, f_Clip_add := f60, d_Clip_add := _, F_Clip_add := F60, b_Clip_add := B60, at_Clip_add := a60, fn_Clip_add := i60, f_Clip_mul := f61, d_Clip_mul := _, F_Clip_mul := F61, b_Clip_mul := B61, at_Clip_mul := a61, fn_Clip_mul := i61, f_Clip_rmul := f62, d_Clip_rmul := _, F_Clip_rmul := F62, b_Clip_rmul := B62, at_Clip_rmul := a62, fn_Clip_rmul := i62, f_Clip_iadd := f63, d_Clip_iadd := _, F_Clip_iadd := F63, b_Clip_iadd := B63, at_Clip_iadd := a63, fn_Clip_iadd := i63,
    nP__law_times_right_law := nP44x47,
    z_bool := PySem.W.mg_none_of X G z_bool,
    z_enumerate := PySem.W.mg_none_of X G z_enumerate,
    z_int := PySem.W.mg_none_of X G z_int,
    z_isinstance := PySem.W.mg_none_of X G z_isinstance,
    z_len := PySem.W.mg_none_of X G z_len,
    z_list := PySem.W.mg_none_of X G z_list,
    z_max := PySem.W.mg_none_of X G z_max,
    z_min := PySem.W.mg_none_of X G z_min,
    z_range := PySem.W.mg_none_of X G z_range,
    z_repr := PySem.W.mg_none_of X G z_repr,
    z_tuple := PySem.W.mg_none_of X G z_tuple,
    x_BadCoder := ⟨gaC0, ggC0, eC0, hdC0⟩, n_BadCoder_part := nC0part, n_BadCoder_number := nC0number, X_BadCoder := ⟨gaC0, ggC0, eC0, hdC0, haC0, hnO, htO, hmC0⟩, e_BadCoder_BadRow := exm_of eC1 isC1 tC1 sC0x1, e_BadCoder_TooGreat := exm_of eC2 isC2 tC2 sC0x2, e_BadCoder_OutOfPlace := exm_of eC3 isC3 tC3 sC0x3, e_BadCoder_NoSeam := exm_of eC4 isC4 tC4 sC0x4, em_BadCoder := ⟨exm_of eC0 isC0 tC0 sC0, exm_of eC1 isC1 tC1 sC0x1, exm_of eC5 isC5 tC5 sC0x5, exm_of eC6 isC6 tC6 sC0x6, exm_of eC2 isC2 tC2 sC0x2, exm_of eC3 isC3 tC3 sC0x3, exm_of eC4 isC4 tC4 sC0x4, exm_of eC7 isC7 tC7 sC0x7, True.intro⟩, ks_BadCoder := ⟨kit_self, kit_no isC1 tC1 sC0 sC0x1, kit_no isC5 tC5 sC0 sC0x5, kit_no isC6 tC6 sC0 sC0x6, kit_no isC2 tC2 sC0 sC0x2, kit_no isC3 tC3 sC0 sC0x3, kit_no isC4 tC4 sC0 sC0x4, kit_no isC7 tC7 sC0 sC0x7, True.intro⟩,
    C_BadCoder := C0, fi_BadCoder := g0, di_BadCoder := _, g_BadCoder := PySem.W.mg_of X G aC0, o_BadCoder := ⟨⟨_, _, _, _, _, _, _, _, _, _, _, _, _, _, _, xC0, by decide +kernel⟩, saC0, eC0, tC0, kC0⟩, i_BadCoder := iC0, t_BadCoder := tI0, Fi_BadCoder := FI0, bi_BadCoder := BI0, e_BadCoder := exm_of eC0 isC0 tC0 sC0,
    x_BadRow := ⟨gaC1, ggC1, eC1, hdC1⟩, n_BadRow_row := nC1row, n_BadRow_word := nC1word, X_BadRow := ⟨gaC1, ggC1, eC1, hdC1, haC1, hnO, htO, hmC1⟩, e_BadRow_BadCoder := exm_of eC0 isC0 tC0 sC1x0, e_BadRow_TooGreat := exm_of eC2 isC2 tC2 sC1x2, e_BadRow_OutOfPlace := exm_of eC3 isC3 tC3 sC1x3, e_BadRow_NoSeam := exm_of eC4 isC4 tC4 sC1x4, em_BadRow := ⟨exm_of eC0 isC0 tC0 sC1x0, exm_of eC1 isC1 tC1 sC1, exm_of eC5 isC5 tC5 sC1x5, exm_of eC6 isC6 tC6 sC1x6, exm_of eC2 isC2 tC2 sC1x2, exm_of eC3 isC3 tC3 sC1x3, exm_of eC4 isC4 tC4 sC1x4, exm_of eC7 isC7 tC7 sC1x7, True.intro⟩, ks_BadRow := ⟨kit_no isC0 tC0 sC1 sC1x0, kit_self, kit_no isC5 tC5 sC1 sC1x5, kit_no isC6 tC6 sC1 sC1x6, kit_no isC2 tC2 sC1 sC1x2, kit_no isC3 tC3 sC1 sC1x3, kit_no isC4 tC4 sC1 sC1x4, kit_no isC7 tC7 sC1 sC1x7, True.intro⟩,
    C_BadRow := C1, fi_BadRow := g1, di_BadRow := _, g_BadRow := PySem.W.mg_of X G aC1, o_BadRow := ⟨⟨_, _, _, _, _, _, _, _, _, _, _, _, _, _, _, xC1, by decide +kernel⟩, saC1, eC1, tC1, kC1⟩, i_BadRow := iC1, t_BadRow := tI1, Fi_BadRow := FI1, bi_BadRow := BI1, e_BadRow := exm_of eC1 isC1 tC1 sC1,
    x_TooGreat := ⟨gaC2, ggC2, eC2, hdC2⟩, n_TooGreat_most := nC2most, X_TooGreat := ⟨gaC2, ggC2, eC2, hdC2, haC2, hnO, htO, hmC2⟩, e_TooGreat_BadCoder := exm_of eC0 isC0 tC0 sC2x0, e_TooGreat_BadRow := exm_of eC1 isC1 tC1 sC2x1, e_TooGreat_OutOfPlace := exm_of eC3 isC3 tC3 sC2x3, e_TooGreat_NoSeam := exm_of eC4 isC4 tC4 sC2x4, em_TooGreat := ⟨exm_of eC0 isC0 tC0 sC2x0, exm_of eC1 isC1 tC1 sC2x1, exm_of eC5 isC5 tC5 sC2x5, exm_of eC6 isC6 tC6 sC2x6, exm_of eC2 isC2 tC2 sC2, exm_of eC3 isC3 tC3 sC2x3, exm_of eC4 isC4 tC4 sC2x4, exm_of eC7 isC7 tC7 sC2x7, True.intro⟩, ks_TooGreat := ⟨kit_no isC0 tC0 sC2 sC2x0, kit_no isC1 tC1 sC2 sC2x1, kit_no isC5 tC5 sC2 sC2x5, kit_no isC6 tC6 sC2 sC2x6, kit_self, kit_no isC3 tC3 sC2 sC2x3, kit_no isC4 tC4 sC2 sC2x4, kit_no isC7 tC7 sC2 sC2x7, True.intro⟩,
    C_TooGreat := C2, fi_TooGreat := g2, di_TooGreat := _, g_TooGreat := PySem.W.mg_of X G aC2, o_TooGreat := ⟨⟨_, _, _, _, _, _, _, _, _, _, _, _, _, _, xC2⟩, saC2, eC2, tC2, kC2⟩, i_TooGreat := iC2, t_TooGreat := tI2, Fi_TooGreat := FI2, bi_TooGreat := BI2, e_TooGreat := exm_of eC2 isC2 tC2 sC2,
    x_OutOfPlace := ⟨gaC3, ggC3, eC3, hdC3⟩, X_OutOfPlace := ⟨gaC3, ggC3, eC3, hdC3, haC3, hnO, htO, hmC3⟩, e_OutOfPlace_BadCoder := exm_of eC0 isC0 tC0 sC3x0, e_OutOfPlace_BadRow := exm_of eC1 isC1 tC1 sC3x1, e_OutOfPlace_TooGreat := exm_of eC2 isC2 tC2 sC3x2, e_OutOfPlace_NoSeam := exm_of eC4 isC4 tC4 sC3x4, em_OutOfPlace := ⟨exm_of eC0 isC0 tC0 sC3x0, exm_of eC1 isC1 tC1 sC3x1, exm_of eC5 isC5 tC5 sC3x5, exm_of eC6 isC6 tC6 sC3x6, exm_of eC2 isC2 tC2 sC3x2, exm_of eC3 isC3 tC3 sC3, exm_of eC4 isC4 tC4 sC3x4, exm_of eC7 isC7 tC7 sC3x7, True.intro⟩, ks_OutOfPlace := ⟨kit_no isC0 tC0 sC3 sC3x0, kit_no isC1 tC1 sC3 sC3x1, kit_no isC5 tC5 sC3 sC3x5, kit_no isC6 tC6 sC3 sC3x6, kit_no isC2 tC2 sC3 sC3x2, kit_self, kit_no isC4 tC4 sC3 sC3x4, kit_no isC7 tC7 sC3 sC3x7, True.intro⟩,
    C_OutOfPlace := C3, fi_OutOfPlace := g3, di_OutOfPlace := _, g_OutOfPlace := PySem.W.mg_of X G aC3, o_OutOfPlace := ⟨⟨_, _, _, _, _, _, _, _, _, _, _, _, _, _, _, xC3, by decide +kernel⟩, saC3, eC3, tC3, kC3⟩, i_OutOfPlace := iC3, t_OutOfPlace := tI3, Fi_OutOfPlace := FI3, bi_OutOfPlace := BI3, e_OutOfPlace := exm_of eC3 isC3 tC3 sC3,
    x_NoSeam := ⟨gaC4, ggC4, eC4, hdC4⟩, X_NoSeam := ⟨gaC4, ggC4, eC4, hdC4, haC4, hnO, htO, hmC4⟩, e_NoSeam_BadCoder := exm_of eC0 isC0 tC0 sC4x0, e_NoSeam_BadRow := exm_of eC1 isC1 tC1 sC4x1, e_NoSeam_TooGreat := exm_of eC2 isC2 tC2 sC4x2, e_NoSeam_OutOfPlace := exm_of eC3 isC3 tC3 sC4x3, em_NoSeam := ⟨exm_of eC0 isC0 tC0 sC4x0, exm_of eC1 isC1 tC1 sC4x1, exm_of eC5 isC5 tC5 sC4x5, exm_of eC6 isC6 tC6 sC4x6, exm_of eC2 isC2 tC2 sC4x2, exm_of eC3 isC3 tC3 sC4x3, exm_of eC4 isC4 tC4 sC4, exm_of eC7 isC7 tC7 sC4x7, True.intro⟩, ks_NoSeam := ⟨kit_no isC0 tC0 sC4 sC4x0, kit_no isC1 tC1 sC4 sC4x1, kit_no isC5 tC5 sC4 sC4x5, kit_no isC6 tC6 sC4 sC4x6, kit_no isC2 tC2 sC4 sC4x2, kit_no isC3 tC3 sC4 sC4x3, kit_self, kit_no isC7 tC7 sC4 sC4x7, True.intro⟩,
    C_NoSeam := C4, fi_NoSeam := g4, di_NoSeam := _, g_NoSeam := PySem.W.mg_of X G aC4, o_NoSeam := ⟨⟨_, _, _, _, _, _, _, _, _, _, _, _, _, _, _, xC4, by decide +kernel⟩, saC4, eC4, tC4, kC4⟩, i_NoSeam := iC4, t_NoSeam := tI4, Fi_NoSeam := FI4, bi_NoSeam := BI4, e_NoSeam := exm_of eC4 isC4 tC4 sC4,
    C_BadPaper := C5, g_BadPaper := PySem.W.mg_of X G aC5,
    C_BadByte := C6, g_BadByte := PySem.W.mg_of X G aC6,
    C_Nothing := C7, g_Nothing := PySem.W.mg_of X G aC7,
    vV := vV, zV := PySem.W.mg_none_of X G zV,
    t_MOST_CODES := tMC, g_MOST_CODES := PySem.W.mg_of X G mc }
  have t1 : ∀ p ∈ ([(cL44, PL44), (cL47, PL47)] : List (Addr × Addr)), h.get? p.2 = some (tabO #[]) := List.forall_mem_cons.mpr ⟨own _ (by simp) _ (PySem.W.mg_of X G a44) _ _ _ _ _ _ _ _ l44 rfl rfl lL44 vL44, List.forall_mem_cons.mpr ⟨own _ (by simp) _ (PySem.W.mg_of X G a47) _ _ _ _ _ _ _ _ l47 rfl rfl lL47 vL47, List.forall_mem_nil _⟩⟩
  have t2 : ∀ p ∈ ([(cL44, PL44), (cL47, PL47)] : List (Addr × Addr)), K.lookup p.2 = none := List.forall_mem_cons.mpr ⟨nL44, List.forall_mem_cons.mpr ⟨nL47, List.forall_mem_nil _⟩⟩
  have t3 : ∀ p ∈ ([(cL44, PL44), (cL47, PL47)] : List (Addr × Addr)), PySem.W.CodeHd h p.1 p.2 := List.forall_mem_cons.mpr ⟨PySem.W.codeHd_of_K X hL44, List.forall_mem_cons.mpr ⟨PySem.W.codeHd_of_K X hL47, List.forall_mem_nil _⟩⟩
  exact ⟨_, [(cL44, PL44), (cL47, PL47)], t1, t2, t3, fun s v => .of_eq rfl, fun base _ _ tb => ok_law T (tb _ (.head _)) (tb _ (.tail _ (.head _)))⟩
end My
open PySem PySem.W PyProof.Rows
set_option maxRecDepth 100000 in
set_option maxHeartbeats 0 in
theorem PySem.Challenge.cw_stepsound_k42_clips_repeated_and_appende_holds : PySem.Challenge.rw_stepsound_k42_clips_repeated_and_appende.Holds := by
  w_on; o_law; k_head; (case hw => w_witness2)
  k_fill
  refine My.walk_ofGTs (l := PySem.Challenge.rw_stepsound_k42_clips_repeated_and_appende) (n := 63) (k := 18) (x := "script") (NM := ["_law_times_right", "law"]) (sp := fun K cs => My.sp_law K (cs.map (·.2))) rfl (by decide) rfl ⟨rfl, by decide, by decide⟩ (by decide +kernel) (fun w h Y => PySem.W.km_in_of Y) ?F (fun K H a cs ns hl hP hS => ⟨a, ns, rfl, hS, hl, (fun P hp => by obtain ⟨p, hp2, rfl⟩ := List.mem_map.mp hp; exact hP p hp2), fun _ => rfl⟩)
  case F =>
    intro w mg fa h KX G hmg own
    refine' My.all_mk KX G hmg own ?a0 ?l0 ?c0 ?k0 ?a1 ?l1 ?c1 ?k1 ?a2 ?l2 ?c2 ?k2 ?a3 ?l3 ?c3 ?k3 ?a4 ?l4 ?c4 ?k4 ?a5 ?l5 ?c5 ?k5 ?a6 ?l6 ?c6 ?k6 ?a7 ?l7 ?c7 ?k7 ?a8 ?l8 ?c8 ?k8 ?a9 ?l9 ?c9 ?k9 ?a10 ?l10 ?c10 ?k10 ?a11 ?l11 ?c11 ?k11 ?a12 ?l12 ?c12 ?k12 ?a13 ?l13 ?c13 ?k13 ?a14 ?l14 ?c14 ?k14 ?a15 ?l15 ?c15 ?k15 ?a16 ?l16 ?c16 ?k16 ?a17 ?l17 ?c17 ?k17 ?a18 ?l18 ?c18 ?k18 ?a19 ?l19 ?c19 ?k19 ?a20 ?l20 ?c20 ?k20 ?a21 ?l21 ?c21 ?k21 ?a22 ?l22 ?c22 ?k22 ?a23 ?l23 ?c23 ?k23 ?a24 ?l24 ?c24 ?k24 ?a25 ?l25 ?c25 ?k25 ?a26 ?l26 ?c26 ?k26 ?a27 ?l27 ?c27 ?k27 ?a28 ?l28 ?c28 ?k28 ?a29 ?l29 ?c29 ?k29 ?a30 ?l30 ?c30 ?k30 ?a31 ?l31 ?c31 ?k31 ?a32 ?l32 ?c32 ?k32 ?a33 ?l33 ?c33 ?k33 ?a34 ?l34 ?c34 ?k34 ?a35 ?l35 ?c35 ?k35 ?a36 ?l36 ?c36 ?k36 ?a37 ?l37 ?c37 ?k37 ?a38 ?l38 ?c38 ?k38 ?a39 ?l39 ?c39 ?k39 ?a40 ?l40 ?c40 ?k40 ?a41 ?l41 ?c41 ?k41 ?a42 ?l42 ?c42 ?k42 ?a43 ?l43 ?c43 ?k43 ?a44 ?l44 ?c44 ?k44 ?lL44 ?vL44 ?hL44 ?nL44 ?a45 ?l45 ?c45 ?k45 ?a46 ?l46 ?c46 ?k46 ?a47 ?l47 ?c47 ?k47 ?lL47 ?vL47 ?hL47 ?nL47 ?aO0 ?pgO0 ?hdO0 ?poO0 ?saO0 ?mkO0 ?kcO0 ?sf0 ?xa0 ?xm0 ?xi0 ?xt0 ?xs0NoneType ?xs0bool ?xs0int ?xs0str ?xs0list ?xs0tuple ?xs0dict ?xn0 ?xk0 ?xe0 ?xo0 ?xq0 ?xr0 ?xp0 ?nO0_coder ?nO0_codes ?nO0_state ?a48 ?i48 ?l48 ?c48 ?k48 ?n48 ?t48 ?e48 ?z48 ?a49 ?gt49 ?tk49 ?rc49 ?l49 ?c49 ?k49 ?a50 ?gt50 ?tk50 ?rc50 ?l50 ?c50 ?k50 ?a51 ?gt51 ?tk51 ?rc51 ?l51 ?c51 ?k51 ?a52 ?i52 ?l52 ?c52 ?k52 ?a53 ?i53 ?l53 ?c53 ?k53 ?a54 ?i54 ?l54 ?c54 ?k54 ?a55 ?i55 ?l55 ?c55 ?k55 ?a56 ?i56 ?l56 ?c56 ?k56 ?a57 ?i57 ?l57 ?c57 ?k57 ?a58 ?i58 ?l58 ?c58 ?k58 ?a59 ?i59 ?l59 ?c59 ?k59 ?a60 ?i60 ?l60 ?c60 ?k60 ?a61 ?i61 ?l61 ?c61 ?k61 ?a62 ?i62 ?l62 ?c62 ?k62 ?a63 ?i63 ?l63 ?c63 ?k63 ?nP44x47 ?z_bool ?z_enumerate ?z_int ?z_isinstance ?z_len ?z_list ?z_max ?z_min ?z_range ?z_repr ?z_tuple ?aC0 ?xC0 ?saC0 ?iC0 ?tI0 ?lC0 ?cC0 ?kI0 ?kC0 ?eC0 ?tC0 ?isC0 ?sC0 ?gaC0 ?ggC0 ?hdC0 ?nC0part ?nC0number ?haC0 ?hmC0 ?aC1 ?xC1 ?saC1 ?iC1 ?tI1 ?lC1 ?cC1 ?kI1 ?kC1 ?eC1 ?tC1 ?isC1 ?sC1 ?gaC1 ?ggC1 ?hdC1 ?nC1row ?nC1word ?haC1 ?hmC1 ?aC2 ?xC2 ?saC2 ?iC2 ?tI2 ?lC2 ?cC2 ?kI2 ?kC2 ?eC2 ?tC2 ?isC2 ?sC2 ?gaC2 ?ggC2 ?hdC2 ?nC2most ?haC2 ?hmC2 ?aC3 ?xC3 ?saC3 ?iC3 ?tI3 ?lC3 ?cC3 ?kI3 ?kC3 ?eC3 ?tC3 ?isC3 ?sC3 ?gaC3 ?ggC3 ?hdC3 ?haC3 ?hmC3 ?aC4 ?xC4 ?saC4 ?iC4 ?tI4 ?lC4 ?cC4 ?kI4 ?kC4 ?eC4 ?tC4 ?isC4 ?sC4 ?gaC4 ?ggC4 ?hdC4 ?haC4 ?hmC4 ?aC5 ?eC5 ?tC5 ?isC5 ?aC6 ?eC6 ?tC6 ?isC6 ?aC7 ?eC7 ?tC7 ?isC7 ?hnO ?htO ?sC0x1 ?sC0x2 ?sC0x3 ?sC0x4 ?sC0x5 ?sC0x6 ?sC0x7 ?sC1x0 ?sC1x2 ?sC1x3 ?sC1x4 ?sC1x5 ?sC1x6 ?sC1x7 ?sC2x0 ?sC2x1 ?sC2x3 ?sC2x4 ?sC2x5 ?sC2x6 ?sC2x7 ?sC3x0 ?sC3x1 ?sC3x2 ?sC3x4 ?sC3x5 ?sC3x6 ?sC3x7 ?sC4x0 ?sC4x1 ?sC4x2 ?sC4x3 ?sC4x5 ?sC4x6 ?sC4x7 ?vV ?zV ?mc
    (case a0 => k_is)
    (case l0 => k_is)
    (case c0 => k_is)
    (case k0 => k_is)
    (case a1 => k_is)
    (case l1 => k_is)
    (case c1 => k_is)
    (case k1 => k_is)
    (case a2 => k_is)
    (case l2 => k_is)
    (case c2 => k_is)
    (case k2 => k_is)
    (case a3 => k_is)
    (case l3 => k_is)
    (case c3 => k_is)
    (case k3 => k_is)
    (case a4 => k_is)
    (case l4 => k_is)
    (case c4 => k_is)
    (case k4 => k_is)
    (case a5 => k_is)
    (case l5 => k_is)
    (case c5 => k_is)
    (case k5 => k_is)
    (case a6 => k_is)
    (case l6 => k_is)
    (case c6 => k_is)
    (case k6 => k_is)
    (case a7 => k_is)
    (case l7 => k_is)
    (case c7 => k_is)
    (case k7 => k_is)
    (case a8 => k_is)
    (case l8 => k_is)
    (case c8 => k_is)
    (case k8 => k_is)
    (case a9 => k_is)
    (case l9 => k_is)
    (case c9 => k_is)
    (case k9 => k_is)
    (case a10 => k_is)
    (case l10 => k_is)
    (case c10 => k_is)
    (case k10 => k_is)
    (case a11 => k_is)
    (case l11 => k_is)
    (case c11 => k_is)
    (case k11 => k_is)
    (case a12 => k_is)
    (case l12 => k_is)
    (case c12 => k_is)
    (case k12 => k_is)
    (case a13 => k_is)
    (case l13 => k_is)
    (case c13 => k_is)
    (case k13 => k_is)
    (case a14 => k_is)
    (case l14 => k_is)
    (case c14 => k_is)
    (case k14 => k_is)
    (case a15 => k_is)
    (case l15 => k_is)
    (case c15 => k_is)
    (case k15 => k_is)
    (case a16 => k_is)
    (case l16 => k_is)
    (case c16 => k_is)
    (case k16 => k_is)
    (case a17 => k_is)
    (case l17 => k_is)
    (case c17 => k_is)
    (case k17 => k_is)
    (case a18 => k_is)
    (case l18 => k_is)
    (case c18 => k_is)
    (case k18 => k_is)
    (case a19 => k_is)
    (case l19 => k_is)
    (case c19 => k_is)
    (case k19 => k_is)
    (case a20 => k_is)
    (case l20 => k_is)
    (case c20 => k_is)
    (case k20 => k_is)
    (case a21 => k_is)
    (case l21 => k_is)
    (case c21 => k_is)
    (case k21 => k_is)
    (case a22 => k_is)
    (case l22 => k_is)
    (case c22 => k_is)
    (case k22 => k_is)
    (case a23 => k_is)
    (case l23 => k_is)
    (case c23 => k_is)
    (case k23 => k_is)
    (case a24 => k_is)
    (case l24 => k_is)
    (case c24 => k_is)
    (case k24 => k_is)
    (case a25 => k_is)
    (case l25 => k_is)
    (case c25 => k_is)
    (case k25 => k_is)
    (case a26 => k_is)
    (case l26 => k_is)
    (case c26 => k_is)
    (case k26 => k_is)
    (case a27 => k_is)
    (case l27 => k_is)
    (case c27 => k_is)
    (case k27 => k_is)
    (case a28 => k_is)
    (case l28 => k_is)
    (case c28 => k_is)
    (case k28 => k_is)
    (case a29 => k_is)
    (case l29 => k_is)
    (case c29 => k_is)
    (case k29 => k_is)
    (case a30 => k_is)
    (case l30 => k_is)
    (case c30 => k_is)
    (case k30 => k_is)
    (case a31 => k_is)
    (case l31 => k_is)
    (case c31 => k_is)
    (case k31 => k_is)
    (case a32 => k_is)
    (case l32 => k_is)
    (case c32 => k_is)
    (case k32 => k_is)
    (case a33 => k_is)
    (case l33 => k_is)
    (case c33 => k_is)
    (case k33 => k_is)
    (case a34 => k_is)
    (case l34 => k_is)
    (case c34 => k_is)
    (case k34 => k_is)
    (case a35 => k_is)
    (case l35 => k_is)
    (case c35 => k_is)
    (case k35 => k_is)
    (case a36 => k_is)
    (case l36 => k_is)
    (case c36 => k_is)
    (case k36 => k_is)
    (case a37 => k_is)
    (case l37 => k_is)
    (case c37 => k_is)
    (case k37 => k_is)
    (case a38 => k_is)
    (case l38 => k_is)
    (case c38 => k_is)
    (case k38 => k_is)
    (case a39 => k_is)
    (case l39 => k_is)
    (case c39 => k_is)
    (case k39 => k_is)
    (case a40 => k_is)
    (case l40 => k_is)
    (case c40 => k_is)
    (case k40 => k_is)
    (case a41 => k_is)
    (case l41 => k_is)
    (case c41 => k_is)
    (case k41 => k_is)
    (case a42 => k_is)
    (case l42 => k_is)
    (case c42 => k_is)
    (case k42 => k_is)
    (case a43 => k_is)
    (case l43 => k_is)
    (case c43 => k_is)
    (case k43 => k_is)
    (case a44 => k_is)
    (case l44 => k_is)
    (case c44 => k_is)
    (case k44 => k_is)
    (case lL44 => k_is)
    (case vL44 => exact rfl)
    (case hL44 => first | decide +kernel | rfl)
    (case nL44 => first | decide +kernel | rfl)
    (case a45 => k_is)
    (case l45 => k_is)
    (case c45 => k_is)
    (case k45 => k_is)
    (case a46 => k_is)
    (case l46 => k_is)
    (case c46 => k_is)
    (case k46 => k_is)
    (case a47 => k_is)
    (case l47 => k_is)
    (case c47 => k_is)
    (case k47 => k_is)
    (case lL47 => k_is)
    (case vL47 => exact rfl)
    (case hL47 => first | decide +kernel | rfl)
    (case nL47 => first | decide +kernel | rfl)
    (case aO0 => k_is)
    (case pgO0 => k_is)
    (case hdO0 => k_is)
    (case poO0 => k_is)
    (case saO0 => k_is)
    (case mkO0 => k_is)
    (case kcO0 => k_is)
    (case sf0 => k_is)
    (case xa0 => k_is)
    (case xm0 => k_is)
    (case xi0 => k_is)
    (case xt0 => k_is)
    (case xs0NoneType => first | rfl | k_is | decide +kernel)
    (case xs0bool => first | rfl | k_is | decide +kernel)
    (case xs0int => first | rfl | k_is | decide +kernel)
    (case xs0str => first | rfl | k_is | decide +kernel)
    (case xs0list => first | rfl | k_is | decide +kernel)
    (case xs0tuple => first | rfl | k_is | decide +kernel)
    (case xs0dict => first | rfl | k_is | decide +kernel)
    (case xn0 => k_is)
    (case xk0 => k_is)
    (case xe0 => k_is)
    (case xo0 => k_is)
    (case xq0 => k_is)
    (case xr0 => k_is)
    (case xp0 => k_is)
    (case nO0_coder => k_is)
    (case nO0_codes => k_is)
    (case nO0_state => k_is)
    (case a48 => k_is)
    (case i48 => k_is)
    (case l48 => k_is)
    (case c48 => k_is)
    (case k48 => k_is)
    (case n48 => k_is)
    (case t48 => k_is)
    (case e48 => k_is)
    (case z48 => k_is)
    (case a49 => k_is)
    (case gt49 => k_is)
    (case tk49 => k_is)
    (case rc49 => k_is)
    (case l49 => k_is)
    (case c49 => k_is)
    (case k49 => k_is)
    (case a50 => k_is)
    (case gt50 => k_is)
    (case tk50 => k_is)
    (case rc50 => k_is)
    (case l50 => k_is)
    (case c50 => k_is)
    (case k50 => k_is)
    (case a51 => k_is)
    (case gt51 => k_is)
    (case tk51 => k_is)
    (case rc51 => k_is)
    (case l51 => k_is)
    (case c51 => k_is)
    (case k51 => k_is)
    (case a52 => k_is)
    (case i52 => k_is)
    (case l52 => k_is)
    (case c52 => k_is)
    (case k52 => k_is)
    (case a53 => k_is)
    (case i53 => k_is)
    (case l53 => k_is)
    (case c53 => k_is)
    (case k53 => k_is)
    (case a54 => k_is)
    (case i54 => k_is)
    (case l54 => k_is)
    (case c54 => k_is)
    (case k54 => k_is)
    (case a55 => k_is)
    (case i55 => k_is)
    (case l55 => k_is)
    (case c55 => k_is)
    (case k55 => k_is)
    (case a56 => k_is)
    (case i56 => k_is)
    (case l56 => k_is)
    (case c56 => k_is)
    (case k56 => k_is)
    (case a57 => k_is)
    (case i57 => k_is)
    (case l57 => k_is)
    (case c57 => k_is)
    (case k57 => k_is)
    (case a58 => k_is)
    (case i58 => k_is)
    (case l58 => k_is)
    (case c58 => k_is)
    (case k58 => k_is)
    (case a59 => k_is)
    (case i59 => k_is)
    (case l59 => k_is)
    (case c59 => k_is)
    (case k59 => k_is)
    (case a60 => k_is)
    (case i60 => k_is)
    (case l60 => k_is)
    (case c60 => k_is)
    (case k60 => k_is)
    (case a61 => k_is)
    (case i61 => k_is)
    (case l61 => k_is)
    (case c61 => k_is)
    (case k61 => k_is)
    (case a62 => k_is)
    (case i62 => k_is)
    (case l62 => k_is)
    (case c62 => k_is)
    (case k62 => k_is)
    (case a63 => k_is)
    (case i63 => k_is)
    (case l63 => k_is)
    (case c63 => k_is)
    (case k63 => k_is)
    (case nP44x47 => first | decide | decide +kernel | simp)
    (case z_bool => k_is)
    (case z_enumerate => k_is)
    (case z_int => k_is)
    (case z_isinstance => k_is)
    (case z_len => k_is)
    (case z_list => k_is)
    (case z_max => k_is)
    (case z_min => k_is)
    (case z_range => k_is)
    (case z_repr => k_is)
    (case z_tuple => k_is)
    (case aC0 => k_is)
    (case xC0 => k_is)
    (case saC0 => k_is)
    (case iC0 => k_is)
    (case tI0 => k_is)
    (case lC0 => k_is)
    (case cC0 => k_is)
    (case kI0 => k_is)
    (case kC0 => k_is)
    (case eC0 => k_is)
    (case tC0 => k_is)
    (case isC0 => k_is)
    (case sC0 => first | rfl | k_is | decide +kernel)
    (case gaC0 => k_is)
    (case ggC0 => k_is)
    (case hdC0 => k_is)
    (case nC0part => k_is)
    (case nC0number => k_is)
    (case haC0 => k_is)
    (case hmC0 => k_is)
    (case aC1 => k_is)
    (case xC1 => k_is)
    (case saC1 => k_is)
    (case iC1 => k_is)
    (case tI1 => k_is)
    (case lC1 => k_is)
    (case cC1 => k_is)
    (case kI1 => k_is)
    (case kC1 => k_is)
    (case eC1 => k_is)
    (case tC1 => k_is)
    (case isC1 => k_is)
    (case sC1 => first | rfl | k_is | decide +kernel)
    (case gaC1 => k_is)
    (case ggC1 => k_is)
    (case hdC1 => k_is)
    (case nC1row => k_is)
    (case nC1word => k_is)
    (case haC1 => k_is)
    (case hmC1 => k_is)
    (case aC2 => k_is)
    (case xC2 => k_is)
    (case saC2 => k_is)
    (case iC2 => k_is)
    (case tI2 => k_is)
    (case lC2 => k_is)
    (case cC2 => k_is)
    (case kI2 => k_is)
    (case kC2 => k_is)
    (case eC2 => k_is)
    (case tC2 => k_is)
    (case isC2 => k_is)
    (case sC2 => first | rfl | k_is | decide +kernel)
    (case gaC2 => k_is)
    (case ggC2 => k_is)
    (case hdC2 => k_is)
    (case nC2most => k_is)
    (case haC2 => k_is)
    (case hmC2 => k_is)
    (case aC3 => k_is)
    (case xC3 => k_is)
    (case saC3 => k_is)
    (case iC3 => k_is)
    (case tI3 => k_is)
    (case lC3 => k_is)
    (case cC3 => k_is)
    (case kI3 => k_is)
    (case kC3 => k_is)
    (case eC3 => k_is)
    (case tC3 => k_is)
    (case isC3 => k_is)
    (case sC3 => first | rfl | k_is | decide +kernel)
    (case gaC3 => k_is)
    (case ggC3 => k_is)
    (case hdC3 => k_is)
    (case haC3 => k_is)
    (case hmC3 => k_is)
    (case aC4 => k_is)
    (case xC4 => k_is)
    (case saC4 => k_is)
    (case iC4 => k_is)
    (case tI4 => k_is)
    (case lC4 => k_is)
    (case cC4 => k_is)
    (case kI4 => k_is)
    (case kC4 => k_is)
    (case eC4 => k_is)
    (case tC4 => k_is)
    (case isC4 => k_is)
    (case sC4 => first | rfl | k_is | decide +kernel)
    (case gaC4 => k_is)
    (case ggC4 => k_is)
    (case hdC4 => k_is)
    (case haC4 => k_is)
    (case hmC4 => k_is)
    (case aC5 => k_is)
    (case eC5 => k_is)
    (case tC5 => k_is)
    (case isC5 => k_is)
    (case aC6 => k_is)
    (case eC6 => k_is)
    (case tC6 => k_is)
    (case isC6 => k_is)
    (case aC7 => k_is)
    (case eC7 => k_is)
    (case tC7 => k_is)
    (case isC7 => k_is)
    (case hnO => k_is)
    (case htO => k_is)
    (case sC0x1 => first | rfl | k_is | decide +kernel)
    (case sC0x2 => first | rfl | k_is | decide +kernel)
    (case sC0x3 => first | rfl | k_is | decide +kernel)
    (case sC0x4 => first | rfl | k_is | decide +kernel)
    (case sC0x5 => first | rfl | k_is | decide +kernel)
    (case sC0x6 => first | rfl | k_is | decide +kernel)
    (case sC0x7 => first | rfl | k_is | decide +kernel)
    (case sC1x0 => first | rfl | k_is | decide +kernel)
    (case sC1x2 => first | rfl | k_is | decide +kernel)
    (case sC1x3 => first | rfl | k_is | decide +kernel)
    (case sC1x4 => first | rfl | k_is | decide +kernel)
    (case sC1x5 => first | rfl | k_is | decide +kernel)
    (case sC1x6 => first | rfl | k_is | decide +kernel)
    (case sC1x7 => first | rfl | k_is | decide +kernel)
    (case sC2x0 => first | rfl | k_is | decide +kernel)
    (case sC2x1 => first | rfl | k_is | decide +kernel)
    (case sC2x3 => first | rfl | k_is | decide +kernel)
    (case sC2x4 => first | rfl | k_is | decide +kernel)
    (case sC2x5 => first | rfl | k_is | decide +kernel)
    (case sC2x6 => first | rfl | k_is | decide +kernel)
    (case sC2x7 => first | rfl | k_is | decide +kernel)
    (case sC3x0 => first | rfl | k_is | decide +kernel)
    (case sC3x1 => first | rfl | k_is | decide +kernel)
    (case sC3x2 => first | rfl | k_is | decide +kernel)
    (case sC3x4 => first | rfl | k_is | decide +kernel)
    (case sC3x5 => first | rfl | k_is | decide +kernel)
    (case sC3x6 => first | rfl | k_is | decide +kernel)
    (case sC3x7 => first | rfl | k_is | decide +kernel)
    (case sC4x0 => first | rfl | k_is | decide +kernel)
    (case sC4x1 => first | rfl | k_is | decide +kernel)
    (case sC4x2 => first | rfl | k_is | decide +kernel)
    (case sC4x3 => first | rfl | k_is | decide +kernel)
    (case sC4x5 => first | rfl | k_is | decide +kernel)
    (case sC4x6 => first | rfl | k_is | decide +kernel)
    (case sC4x7 => first | rfl | k_is | decide +kernel)
    (case vV => first | rfl | k_is | decide +kernel)
    (case zV => k_is)
    (case mc => k_is)


