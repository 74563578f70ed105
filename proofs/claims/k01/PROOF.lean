import PyProof.Rows.All
import Wide.All
import OpenK.AllK
import Wide.FinOn
import HandS.ForMost
import HandS.Wide
import HandS.IsInst
import HandS.TupAny
import HandS.Conv
import KE.GoesMore
import KE.GoesEnum
import HandS.ForExc
import HandS.ExcInit
import HandS.ExcField
import HandS.TryMany
import KE.KTryMore
import HandS.ExcIs
import PyProof.ExcBaseAll.OverflowError
import KE.KExcInit
import PyProof.ExcBaseAll.LookupError
import HandS.EndOwn
import PyProof.P3In
import HandS.MakeKwOnly
import HandS.ExcValue
import HandS.Defaults
import HandS.WideBits
import HandS.Walk
import PySem.Challenge.RW_stepsound_k01_errors
set_option Elab.async false
set_option linter.all false
set_option maxRecDepth 100000
namespace My
open PySem PySem.Spec PyProof.Rows L2

/-! ### heaps -/
theorem same_new {H : Hp} {p : Addr} {o : HO} (h : H p = none) : Same H (upd H p o) := fun b x e => by
  rw [upd_ne (ne_of_none e h)]
  exact e
theorem same_tup {K : PySem.W.Frag} {H H' : Hp} {a : Addr} {xs : List V} (e : Same H H') (h : SqT K H a xs) : SqT K H' a xs := by
  rcases h with (h | ⟨o, h⟩) | h
  · exact .inl (.inl (e _ _ h))
  · exact .inl (.inr ⟨o, e _ _ h⟩)
  · exact .inr h
/-- every tuple stands -/
def TupS (H H' : Hp) : Prop := ∀ b xs, H b = some (.tup xs) → H' b = some (.tup xs)
theorem Same.tupS {H H' : Hp} (e : Same H H') : TupS H H' := fun b xs h => e b _ h

/-! ### rules within a comprehension: the written part by its own name -/
theorem ix_tupK {X : Cx} {K : PySem.W.Frag} (h : X.K = K := by rfl) : IxR X (rIxT K) := by
  subst h
  exact ix_tup
theorem ix_listK {X : Cx} {K : PySem.W.Frag} (h : X.K = K := by rfl) : IxR X (rIxL K) := by
  subst h
  exact ix_list
def rLen (K : PySem.W.Frag) : List V → Hp → VK → Prop := fun xs H Q => ∃ p ys, xs = [.ref p] ∧ (SqL K H p ys ∨ SqT K H p ys) ∧ Q (.int ys.length) H
theorem call_lenK {X : Cx} {K : PySem.W.Frag} (h : X.K = K := by rfl) : CallR X (.builtin "len") (rLen K) := by
  subst h
  exact call_len_seq
/-! ### the drawer of a law: a dict of two lists and a number -/
def dd (c l : Addr) (k : Int) : List (Key × V) := [(.inr "cells", .ref c), (.inr "left", .ref l), (.inr "at", .int k)]
theorem nCL : ¬ ((Sum.inr ("cells" : Str) : Key) = Sum.inr ("left" : Str)) := by decide +kernel
theorem nCA : ¬ ((Sum.inr ("cells" : Str) : Key) = Sum.inr ("at" : Str)) := by decide +kernel
theorem nLC : ¬ ((Sum.inr ("left" : Str) : Key) = Sum.inr ("cells" : Str)) := by decide +kernel
theorem nLA : ¬ ((Sum.inr ("left" : Str) : Key) = Sum.inr ("at" : Str)) := by decide +kernel
theorem nAC : ¬ ((Sum.inr ("at" : Str) : Key) = Sum.inr ("cells" : Str)) := by decide +kernel
theorem nAL : ¬ ((Sum.inr ("at" : Str) : Key) = Sum.inr ("left" : Str)) := by decide +kernel
theorem dd_c (c l : Addr) (k : Int) : valV (dd c l k) (.inr "cells") = some (.ref c) := valV_pos rfl
theorem dd_l (c l : Addr) (k : Int) : valV (dd c l k) (.inr "left") = some (.ref l) := (valV_neg nCL).trans (valV_pos rfl)
theorem dd_a (c l : Addr) (k : Int) : valV (dd c l k) (.inr "at") = some (.int k) := (valV_neg nCA).trans ((valV_neg nLA).trans (valV_pos rfl))
theorem sCL : ¬ (("cells" : Str) = "left") := by decide +kernel
theorem sCA : ¬ (("cells" : Str) = "at") := by decide +kernel
theorem sLA : ¬ (("left" : Str) = "at") := by decide +kernel
theorem sAL : ¬ (("at" : Str) = "left") := by decide +kernel
theorem dd_pl (c l l' : Addr) (k : Int) : putK (dd c l k) (.inr "left") (.ref l') = dd c l' k := by
  simp [putK, dd, sCL, sAL]
theorem dd_pa (c l : Addr) (k k' : Int) : putK (dd c l k) (.inr "at") (.int k') = dd c l k' := by
  simp [putK, dd, sCA, sLA]
theorem dd_mk (c l : Addr) : mergeK [] [(Sum.inr "cells", V.ref c), (Sum.inr "left", V.ref l), (Sum.inr "at", V.int 0)] = dd c l 0 := by
  simp [mergeK, putK, dd, sCL, sCA, sLA]

/-- at m the drawer with its lists at c and l, for n draws more -/
structure Dr (H : Hp) (m c l : Addr) (n : Nat) : Prop where
  ex : ∃ (cs ls : List Int) (k : Int), H m = some (.dK (dd c l k)) ∧ H c = some (.lst (cs.map V.int)) ∧ H l = some (.lst (ls.map V.int)) ∧ c ≠ l ∧
    cs.length ≤ 63 ∧ ls.length ≤ 63 ∧ (∀ x ∈ ls, 0 ≤ x) ∧ 0 ≤ k ∧ k + (n : Int) ≤ 1000000
/-- all but the drawer's own stands; its list of what is left is the old one or new -/
structure Kp (m l : Addr) (H : Hp) (l' : Addr) (H' : Hp) : Prop where
  st : ∀ b o, H b = some o → b ≠ m → b ≠ l → H' b = some o
  nw : l' = l ∨ H l' = none
  dm : ∀ b, H' b = none → H b = none
theorem Kp.refl (m l : Addr) (H : Hp) : Kp m l H l H := ⟨fun _ _ h _ _ => h, .inl rfl, fun _ h => h⟩
theorem Kp.off {m l l' : Addr} {H H' : Hp} (k : Kp m l H l' H') {b : Addr} {o : HO} (h : H b = some o) (n : b ≠ l) : b ≠ l' := by
  rcases k.nw with e | e
  · rw [e]; exact n
  · exact ne_of_none h e
theorem Kp.trans {m l l' l'' : Addr} {H H' H'' : Hp} (a : Kp m l H l' H') (b : Kp m l' H' l'' H'') : Kp m l H l'' H'' := by
  refine ⟨fun q o h n1 n2 => b.st q o (a.st q o h n1 n2) n1 (a.off h n2), ?_, fun q e => a.dm q (b.dm q e)⟩
  rcases b.nw with e | e
  · rw [e]; exact a.nw
  · exact .inr (a.dm _ e)
/-- a new object -/
theorem Kp.new {m l : Addr} {H : Hp} {p : Addr} {o : HO} (h : H p = none) : Kp m l H l (upd H p o) := by
  refine ⟨fun b u e _ _ => same_new h b u e, .inl rfl, fun b e => ?_⟩
  unfold upd at e
  split at e
  · cases e
  · exact e
theorem Dr.new {H : Hp} {m c l n : Nat} {p : Addr} {o : HO} (d : Dr H m c l n) (h : H p = none) : Dr (upd H p o) m c l n := by
  obtain ⟨cs, ls, k, h1, h2, h3, r⟩ := d.ex
  exact ⟨cs, ls, k, same_new h _ _ h1, same_new h _ _ h2, same_new h _ _ h3, r⟩
/-- a change of another object than the drawer's -/
theorem Dr.set {H : Hp} {m c l n : Nat} {p : Addr} {o : HO} (d : Dr H m c l n) (n1 : p ≠ m) (n2 : p ≠ c) (n3 : p ≠ l) : Dr (upd H p o) m c l n := by
  obtain ⟨cs, ls, k, h1, h2, h3, r⟩ := d.ex
  exact ⟨cs, ls, k, (upd_ne n1.symm).trans h1, (upd_ne n2.symm).trans h2, (upd_ne n3.symm).trans h3, r⟩
theorem Dr.less {H : Hp} {m c l n k : Nat} (d : Dr H m c l n) (h : k ≤ n) : Dr H m c l k := by
  obtain ⟨cs, ls, z, h1, h2, h3, h4, h5, h6, h7, h8, h9⟩ := d.ex
  exact ⟨cs, ls, z, h1, h2, h3, h4, h5, h6, h7, h8, by omega⟩
theorem Dr.same {H H' : Hp} {m c l n : Nat} (d : Dr H m c l n) (s : Same H H') : Dr H' m c l n := by
  obtain ⟨cs, ls, k, h1, h2, h3, r⟩ := d.ex
  exact ⟨cs, ls, k, s _ _ h1, s _ _ h2, s _ _ h3, r⟩
theorem Kp.same {m l : Addr} {H H' : Hp} (s : Same H H') : Kp m l H l H' := ⟨fun b o h _ _ => s b o h, .inl rfl, fun _ h => s.free h⟩
/-- tuples stand -/
theorem Kp.tup {m c l l' n : Addr} {H H' : Hp} (k : Kp m l H l' H') (d : Dr H m c l n) : TupS H H' := fun b xs h => by
  obtain ⟨cs, ls, z, h1, h2, h3, r⟩ := d.ex
  exact k.st b _ h (ne_of h h1 nofun) (ne_of h h3 nofun)
end My

/-! Defs that write out data (repr): their promise is asked only where nothing is being written out around them. -/
namespace My
open PySem PySem.Spec PyProof.Rows L2
/-- as the layer's promise of a def, for calls around which no guard stands -/
structure FnG (P : Program) (w : World) (K : PySem.W.Frag) (mg : Str → Option Value) (base : Heap) (k : Nat) (f : Addr) (fd : FuncData)
    (ps : List Str) (sp : Sp) : Prop where
  len : ∀ vs H Q E, sp vs H Q E → vs.length = ps.length
  go : ∀ (A : Around) (outer : List Env) (s : Shared) (H : Hp) (args : Args) (us : List Value) (vs : List V) (Q : VK) (E : XK),
    A.guards = some [] → Room k A → Env0 P w K mg base A outer s H → BindsTo s fd args (ps.zip us) → Vals vs us → sp vs H Q E →
    codeAny (model P w) A (.call (.ref f) args) (CR CX0 outer P w H s Q E) s
section
variable {P : Program} {w : World} {K : PySem.W.Frag} {mg : Str → Option Value} {base : Heap}
theorem FnG.of {k : Nat} {f : Addr} {fd : FuncData} {ps : List Str} {sp : Sp} (F : FnOk P w K mg base CX0 k f fd ps sp) : FnG P w K mg base k f fd ps sp :=
  ⟨F.len, fun A o s H args us vs Q E _ hr => F.run A o s H args us vs Q E hr⟩
theorem okG {x qual : Str} {st : Stmt} {f : Addr} {fd : FuncData} {N ps : List Str} {k : Nat} {sp : Sp} (F : Fun K x qual st f fd)
    (S : FnScope N ps (defScope st)) (len : ∀ vs H Q E, sp vs H Q E → vs.length = ps.length)
    (body : ∀ (cdv : Value) (A : Around) (outer : List Env) (s : Shared) (H : Hp) (vs : List V) (Q : VK) (E : XK), A.guards = some [] →
      Room k (A.deeper (envOfC qual (defScope st) s.heap.objs.size f cdv)) → sp vs H Q E →
      ∃ t, PSs (cxOf CX0 P w K mg base N qual (defScope st) f cdv A outer s H E).nox (defBody st) t ∧
        t { nx := fun _ H' => Q .non H', rt := Q } (start N vs) H) :
    FnG P w K mg base (k + 1) f fd ps sp := by
  obtain ⟨oc, od, kV, doc, pm, an, cdv, ct, osl, rfl, lk, hcd⟩ := F.ex
  refine ⟨len, fun A outer s H args us vs Q E hg room env0 binds rel want => ?_⟩
  have inK : K.In s.heap := env0.mod.kin.keeps fun b o e => (env0.bs b o e).1
  have noLim : s.heap.NoLimit := env0.mod.nolimit.keeps fun b o e => (env0.bs b o e).1
  have kinds : ∀ y ∈ ps.zip us, (defScope st).names.lookup y.1 = some .local ∨
      ((defScope st).names.lookup y.1 = some .cell ∧ ((cellsFrom (s.heap.objs.size + 1) (defScope st).names []).lookup y.1).isSome = true) := by
    rintro ⟨n, v⟩ hy
    rcases S.par n (List.of_mem_zip hy).1 with q | q
    · exact Or.inl q
    · exact Or.inr ⟨q, PySem.W.cellsFrom_some _ _ _ (Or.inl q)⟩
  refine codeAny_call_function room.depth (inK _ _ lk) rfl S.co S.gen rfl (PySem.W.codeRec_of inK hcd)
    (binds _ _ _ _ ?_)
  refine wpAny_newFunctionEnv_cells S.kind kinds
    fun env he s1 x => ?_
  subst he
  refine ⟨noLim.keeps x.toInCall.keep,
    codeAny_func ?_⟩
  obtain ⟨t, ht, run⟩ := body cdv A outer s H vs Q E hg (room.deeper _) want
  have start0 : Inv (cxOf CX0 P w K mg base N qual (defScope st) f cdv A outer s H E) [] (start N vs) H s1 :=
    inv_start S room.hd env0 (len _ _ _ _ want) rel x
  refine wpAny_mono (ht.nox.run [] s1 (start N vs) H _ start0 run)
    (fun flow s' hs => ?_) fun e s' hs => hs
  have fin : ∀ {σ' : L2.St} {H' : Hp} {v : V} {u : Value}, Inv (cxOf CX0 P w K mg base N qual (defScope st) f cdv A outer s H E) [] σ' H' s' →
      RelV v u → Q v H' → CE outer P w H s Q u s' :=
    fun {_ H' v _} J rv q => ⟨v, H', J.os, J.bare, J.base, J.hok, rv, q⟩
  cases flow with
  | ret u =>
    obtain ⟨v, σ', H', J, rv, q⟩ := hs
    exact fin J rv q
  | next =>
    obtain ⟨σ', H', J, q⟩ := hs
    exact fin (v := V.non) (u := Value.none) J rfl q
  | brk => obtain ⟨_, _, _, q⟩ := hs; exact q.elim
  | cont => obtain ⟨_, _, _, q⟩ := hs; exact q.elim
end
section
variable {X : Cx}
theorem goG {k : Nat} {f : Addr} {fd : FuncData} {ps : List Str} {sp : Sp} {ds : List Value} {dvs : List V} {E : XK} {pins : List (Addr × Obj)} {σ : L2.St} {H : Hp} {s : Shared} {Q : VK} {us : List Value} {vs : List V}
    (F : FnG X.prog X.w X.K X.mg X.base k f fd ps sp) (hg : X.A.guards = some []) (hr : Room k X.A) (hb : Binds X.K fd ps ds) (hd : Vals dvs ds) (hx : Passes CX0 X E)
    (I : Inv X pins σ H s) (r : Vals vs us) (h : sp (vs ++ dvs) H Q E) :
    wpAny (model X.prog X.w) X.A (call (.ref f) us) (EP X pins σ Q) X.xe s := by
  have rr : Vals (vs ++ dvs) (us ++ ds) := r.append hd
  have len : (us ++ ds).length = ps.length := rr.length ▸ F.len _ _ _ _ h
  refine wpAny_call (codeAny_mono (F.go X.A X.stack s H ⟨us, []⟩ (us ++ ds) (vs ++ dvs) Q E hg hr I.env0 (hb s us I.kIn len) rr h) ?_)
  intro res s' hq
  match res, hq with
  | .error e, hq => exact hx pins σ H s e s' I hq
  | .ok (.ret u), hq => exact I.after hq
/-- f(e, ..), f writing out data -/
theorem pe_callG {k : Nat} {f : Addr} {fd : FuncData} {ps : List Str} {sp : Sp} {ds : List Value} {dvs : List V} {E : XK} {x : Str} {e : Expr} {es : List Expr} {t : TA} {p pos : Pos}
    (F : FnG X.prog X.w X.K X.mg X.base k f fd ps sp) (hgd : X.A.guards = some []) (hr : Room k X.A) (hg : Gl X x) (hm : X.mg x = some (.ref f)) (hk : PySem.W.keepIn X.K (.ref f) = true)
    (hb : Binds X.K fd ps ds) (hd : Vals dvs ds) (hx : Passes CX0 X E) (ha : PA X (e :: es) t) (hdb : (x == ("__debug__" : Str)) = false := by decide)
    (he : starEach (e :: es) X.env = (false, eval e X.env) :: starEach es X.env := by rfl)
    (hpl : (backTo pos (starEach es X.env)).any (·.1) = false := by rfl) :
    PE X (.Call (.Name x p) (e :: es) [] pos) (tCall sp dvs E t) := by
  refine ⟨fun pins s σ H Q I h => wpAny_Call_Name_kw (ld_glob I hg hm ?_ hdb)⟩
  refine PySem.W.callWith_K (h₀ := X.base) I.ok.mod.kin hk
    (thn (ha.run pos pins s σ H _ I h) fun us s1 ⟨vs, H1, I1, r, q⟩ => ⟨I1.kIn, ?_⟩) he hpl
  exact goG F hgd hr hb hd hx I1 r q

/-! ### repr -/
def rRepr (K : PySem.W.Frag) : List V → Hp → VK → Prop := fun xs H Q => ∃ (v : V) (d : PyData), xs = [v] ∧ Dp K H v d ∧ d.showable = true ∧ d.hasDict = false ∧
  d.depth ≤ 60 ∧ d.shown.length ≤ sizeLine ∧ Q (.str d.shown) H
theorem call_repr (hg : X.A.guards = some []) (hu : X.A.units + 64 < cLine) : CallR X (.builtin "repr") (rRepr X.K) := by
  intro pins s σ H xs us Q I r h
  obtain ⟨v, d, rfl, hd, hs, hn, hdp, hz, q⟩ := h
  obtain ⟨u, rfl, ru⟩ := vals1 r
  cases hd with
  | non =>
    cases ru
    exact P.repr_of_none ⟨.str _, H, I.tok _, ⟨_, rfl⟩, q⟩
  | bl b =>
    cases ru
    exact P.repr_of_bool ⟨.str _, H, I.tok _, ⟨_, rfl⟩, q⟩
  | int i =>
    obtain ⟨t, rfl⟩ := ru
    exact P.repr_of_int (of_decide_eq_true hs) ⟨.str _, H, I.tok _, ⟨_, rfl⟩, q⟩
  | str x =>
    obtain ⟨t, rfl⟩ := ru
    exact P.repr_of_str ⟨.str _, H, I.tok _, ⟨_, rfl⟩, q⟩ hz
  | @lst a xs ds h1 h2 =>
    cases ru
    obtain ⟨as, rd⟩ := Dp.reads I (.list ds) (.ref a) (.ref a) (.lst h1 h2) rfl
    refine repr_of_reads' rd hs (fun z => by rw [hn] at z; cases z) hg (by omega) (fun _ _ e => e) (fun h' u tk hk => ?_) hz
    exact ⟨.str _, H, I.kept hk, ⟨_, rfl⟩, q⟩
  | @tup a xs ds h1 h2 =>
    cases ru
    obtain ⟨as, rd⟩ := Dp.reads I (.tuple ds) (.ref a) (.ref a) (.tup h1 h2) rfl
    refine repr_of_reads' rd hs (fun z => by rw [hn] at z; cases z) hg (by omega) (fun _ _ e => e) (fun h' u tk hk => ?_) hz
    exact ⟨.str _, H, I.kept hk, ⟨_, rfl⟩, q⟩
end
end My

/-! The end of a law whose promise is asked where no guard stands. -/
namespace My
open PySem PySem.Spec PyProof.Rows L2
theorem law_callG {P : Program} {w : World} {K : PySem.W.Frag} {mg mb : Str → Option Value} {k : Nat} {fa a : Addr} {fd : FuncData} {x : Str} {sp : Sp} {s₁ : Shared} {vs : List Value} {ns : List Int}
    (inK : K.In s₁.heap) (glob : s₁.heap.Ns mainGlobals mg) (blt : s₁.heap.Ns builtinsNs mb) (boot : ∀ x : Str, x ≠ "__name__" → mb x = bootBuiltins x) (nolim : s₁.heap.NoLimit) (nogen : s₁.gens = #[])
    (hobj : s₁.heap.get? a = some { cls := .type "list", data := .seq vs.toArray }) (hints : IntsAre vs ns) (hlen : ns.length ≤ sizeLine) (room : Room k callerA)
    (F : ∀ base : Heap, K.In base → base.Ns mainGlobals mg → FnG P w K mg base k fa fd [x] sp) (binds : ∀ (s : Shared) (u : Value), BindsTo s fd ⟨[u], []⟩ [(x, u)])
    (want : ∀ H : Hp, Only H → SqL K H a (ns.map V.int) → sp [.ref a] H (fun v _ => v = .bl true) fun _ _ _ => False) :
    codeAny (model P w) callerA (.call (.ref fa) ⟨[.ref a], []⟩) (fun r s' => r = .ok (.ret (.bool true)) ∧ OldK s₁.heap s'.heap ∧ s'.os = s₁.os ∧ AllBare s'.gens) s₁ := by
  have relv := vals_ints hints
  have core : ∀ H : Hp, Only H → SqL K H a (ns.map V.int) → HOk P w H s₁.heap → (∀ b, H b ≠ none → b = a) → (H a ≠ none → K.lookup a = none) →
      codeAny (model P w) callerA (.call (.ref fa) ⟨[.ref a], []⟩) (fun r s' => r = .ok (.ret (.bool true)) ∧ OldK s₁.heap s'.heap ∧ s'.os = s₁.os ∧ AllBare s'.gens) s₁ := by
    intro H only seq ok one notK
    have up : ∀ {b : Addr} {o : Obj}, s₁.heap.get? b = some o → H b = none → (hidT s₁.heap H).get? b = some o := fun e n => hidT_get e n
    have dictFree : ∀ {b : Addr} {o : Obj} {es : Array DictEntry} {ep : Nat}, s₁.heap.get? b = some o → o.data = .dict es ep → H b = none := by
      intro b o es ep e d
      cases q : H b with
      | none => rfl
      | some u =>
        have eb : b = a := one b (fun z => by rw [q] at z; cases z)
        rw [eb, hobj] at e
        cases e
        exact Data.noConfusion (show Data.seq vs.toArray _ = Data.dict es ep from d)
    have nsUp : ∀ {b : Addr} {m : Str → Option Value}, s₁.heap.Ns b m → (hidT s₁.heap H).Ns b m :=
      fun {_ _} ⟨o, es, ep, e, d, r⟩ => ⟨o, es, ep, up e (dictFree e d), d, r⟩
    have kUp : K.In (hidT s₁.heap H) := by
      intro b o e
      refine up (inK b o e) ?_
      cases q : H b with
      | none => rfl
      | some u =>
        have eb : b = a := one b (fun z => by rw [q] at z; cases z)
        rw [eb, notK (fun z => by rw [← eb, q] at z; cases z)] at e
        cases e
    have mod : Mod K mg (hidT s₁.heap H) := ⟨kUp, nsUp glob, ⟨mb, nsUp blt, boot⟩, nolim.imp fun mc z => ⟨nsUp z.1, z.2⟩⟩
    have env0 : Env0 P w K mg (hidT s₁.heap H) callerA [] s₁ H :=
      ⟨rfl, mod, fun b o e => of_hidT e, Nat.le_of_eq (hidT_size _ _), trivial, fun b hb => absurd (show b ∈ ([] : List Addr) from hb) (by simp), ok, .of_eq nogen⟩
    have call := (F _ kUp (nsUp glob)).go callerA [] s₁ H ⟨[.ref a], []⟩ [.ref a] [.ref a] _ _ rfl room env0 (binds s₁ (.ref a)) (.cons rfl .nil) (want H only seq)
    refine codeAny_mono call fun r s' h => ?_
    match r, h with
    | .error e, h => exact (show False from h).elim
    | .ok (.ret u), h =>
      obtain ⟨v, H', os, bare, un, ok', rv, q⟩ := h
      obtain rfl : v = .bl true := q
      obtain rfl : u = Value.bool true := rv
      refine ⟨rfl, OldK.of_keep (fun b o e => ?_), os, bare⟩
      rcases only b with z | ⟨ob, xs, z⟩
      · exact un.keep b o e z (fun y => absurd (show b ∈ ([] : List Addr) from y) (by simp)) (by simp)
      · obtain ⟨e1, _⟩ := ok b _ z
        obtain ⟨e2, _⟩ := ok' b _ (un.frzs b ob _ z)
        rw [e] at e1
        cases e1
        exact e2
  cases hk : K.lookup a with
  | some o =>
    have e := inK a o hk
    rw [hobj] at e
    cases e
    have stands : SqL K (fun _ => none) a (ns.map V.int) := .inr ⟨_, vs.toArray, _, hk, rfl, rfl, rfl, by rw [List.size_toArray, hints.length]; exact hlen, by simpa using relv⟩
    exact core (fun _ => none) (fun _ => .inl rfl) stands (fun b u z => nomatch (show (none : Option HO) = some u from z)) (fun b z => absurd rfl z) fun z => absurd rfl z
  | none =>
    let o : Obj := { cls := .type "list", data := .seq vs.toArray }
    have atA : (fun b => if b = a then some (HO.frz o (.lst (ns.map V.int))) else none) a = some (.frz o (.lst (ns.map V.int))) := if_pos rfl
    refine core (fun b => if b = a then some (.frz o (.lst (ns.map V.int))) else none) (fun b => ?_) (.inl (.inr ⟨o, atA⟩)) (fun b u z => ?_) (fun b z => ?_) fun _ => hk
    · by_cases hb : b = a
      · exact .inr ⟨_, _, if_pos hb⟩
      · exact .inl (if_neg hb)
    · by_cases hb : b = a
      · have y := (if_pos hb).symm.trans z
        cases y
        rw [hb]
        exact ⟨hobj, by rw [List.length_map]; exact hlen, vs, _, relv, hobj⟩
      · exact nomatch (if_neg hb).symm.trans z
    · by_cases hb : b = a
      · exact hb
      · exact absurd (if_neg hb) z
theorem walk_ofG {l : PySem.W.OpenLaw} {n k : Nat} {q : Program} {loose : List Str} {XP : (Str → Option Value) → Heap → Prop} {YP : World → Heap → Prop} {d : DefRec}
    {K : Params → PySem.W.Frag} {sp : PySem.W.Frag → Sp} {x : Str}
    (hn : l.most = some n) (hn2 : n ≤ sizeLine) (hdf : d.params.defaults = []) (room : Room k callerA)
    (hY : ∀ (w : World) (h : Heap), YP w h → (K w.params).In h)
    (F : ∀ (w : World) (mg : Str → Option Value) (fa : Addr) (h : Heap), (K w.params).In h → h.Ns mainGlobals mg → mg d.name = some (.ref fa) →
      ∃ fd : FuncData, (∀ (s : Shared) (u : Value), BindsTo s fd ⟨[u], []⟩ [(x, u)]) ∧
        ∀ base : Heap, (K w.params).In base → base.Ns mainGlobals mg → FnG l.prog w (K w.params) mg base k fa fd [x] (sp (K w.params)))
    (want : ∀ (K : PySem.W.Frag) (H : Hp) (a : Addr) (ns : List Int), ns.length ≤ n → Only H → SqL K H a (ns.map V.int) → sp K [.ref a] H (fun v _ => v = .bl true) fun _ _ _ => False) :
    PySem.W.WalkO q loose XP YP l.row.toRowW d [] (fun f vs => PySem.call f vs) := by
  refine Att.attach_call hn hdf fun w s₀ s₁ mg mb fa o pm cd doc a vs ns G Y ho hd hcd hmg hobj hints hlen hg => ?_
  obtain ⟨fd, hb, hF⟩ := F w mg fa _ (hY w _ Y) G.T.g hmg
  exact law_callG (hY w _ Y) G.T.g G.T.b G.T.builtins G.T.nolimit hg hobj hints
    (Nat.le_trans hlen hn2) room hF hb fun H only seq => want (K w.params) H a ns hlen only seq
end My

/-! for i, x in enumerate(t), t a tuple. -/
namespace My
open PySem PySem.Spec PyProof.Rows L2
/-- what enumerate(v) makes: v's iterator and itself -/
def enumO (a : Addr) : Obj :=
  { cls := .type "enumerate",
    data := .fields #[.none, .bool false, .ref a, rawInt 0, .none, .none] }
set_option maxHeartbeats 1000000 in
theorem meets_enum1 {v : Value} {o : Obj} {G : Heap → Prop} (B : Begins v o G) :
    Meets (Builtin.«enumerate.__new__» ⟨[.type "enumerate", v], []⟩) (fun _ R s => G s.heap ∧
      R (.ok (.ret (.ref (s.heap.push o).objs.size)))
        { s with heap := (s.heap.push o).push (enumO s.heap.objs.size) }) :=
  .of_wp fun prog w A R s ⟨h1, h⟩ => by
    obtain ⟨hp, gens, drawn, tk, os⟩ := s
    have isSub := sub_enumerate
    have step : ∀ {A' : Around} {E : Value → Shared → Prop} {Q : Value → Shared → Prop}, Q (.ref hp.objs.size) ⟨hp.push o, gens, drawn, tk, os⟩ →
        wpAny (model prog w) A' (pyIter v) Q E ⟨hp, gens, drawn, tk, os⟩ :=
      fun q => B.iter prog w _ _ ⟨hp, gens, drawn, tk, os⟩ _ h1 q
    wp_walk using step
    refine wpAny_stack_any fun st => wpAny_pure ?_
    split
    · rename_i c _ _ _ _ _
      by_cases hc : (c == Value.type "enumerate") = true
      · rw [hc]
        wp_walk using step
        exact ⟨_, rfl, h⟩
      · rw [Bool.not_eq_true] at hc
        rw [hc]
        wp_walk using step
        exact ⟨_, rfl, h⟩
    · wp_walk using step
      exact ⟨_, rfl, h⟩
section
variable {prog : Program} {w : World} {A : Around} {E : Value → Shared → Prop} {s : Shared}
theorem enum_call1 {v : Value} {o : Obj} {G : Heap → Prop} {Q : Value → Shared → Prop} (B : Begins v o G) (h1 : G s.heap)
    (h : ∀ h', IsEnum h' (s.heap.objs.size + 1) s.heap.objs.size 0 .none → h'.get? s.heap.objs.size = some o →
      (∀ b u, s.heap.get? b = some u → h'.get? b = some u) → Q (.ref (s.heap.objs.size + 1)) { s with heap := h' }) :
    wpAny (model prog w) A (call (.type "enumerate") [v]) Q E s := by
  have size1 : (s.heap.push o).objs.size = s.heap.objs.size + 1 := Heap.size_push ..
  have made : IsEnum ((s.heap.push o).push (enumO s.heap.objs.size)) (s.heap.objs.size + 1) s.heap.objs.size 0 .none := by
    have z := Heap.get?_push_size (s.heap.push o) (o := enumO s.heap.objs.size) rfl
    rw [size1] at z
    exact z
  refine callType_new F.called_enumerate (by decide) (F.typeCall_enumerate_1 _) (F.newCall_enumerate_1 _)
    (fun obj => F.args_object_init_2 obj _) F.entry_enumerate_new (meets_enum1 B) ⟨h1, ?_⟩
  show _ ∧ _
  rw [size1]
  exact ⟨⟨_, made, rfl⟩, h _ made (Heap.get?_push_of_some _ (Heap.get?_push_size _ B.free)) fun b u x => Heap.get?_push_of_some _ (Heap.get?_push_of_some _ x)⟩
end
/-- the tuple at a, each item in a new pair with its number -/
def Itu (K : PySem.W.Frag) (a : Addr) : It where
  go i H := ∃ (xs : List V) (x : V), SqT K H a xs ∧ xs[i]? = some x
  yld i H v H' := ∃ T x, v = .ref T ∧ H T = none ∧ H' = upd H T (.tup [.int (i : Nat), x]) ∧ ∀ xs, SqT K H a xs → xs[i]? = some x
  stop i H := ∃ xs : List V, SqT K H a xs ∧ xs.length = i
def EnumAt (e it a : Addr) (i : Nat) (h : Heap) : Prop := (∃ old, IsEnum h e it ((i : Nat) : Int) old) ∧ h.IsTupleIter it a i ∧ e ≠ it
theorem turn_enumT {P : Program} {w : World} {K : PySem.W.Frag} {elts : List Expr} {kk : Nat} {tpos : Pos} (a e it : Addr) (hae : a ≠ e) (hai : a ≠ it) :
    Turn P w K (.Tuple elts kk tpos) (Itu K a) [e, it] e (EnumAt e it a) where
  mem := by simp
  obj := fun i h st b hb => by
    obtain ⟨⟨old, he⟩, ⟨o, ho, hc, hd⟩, _⟩ := st
    rcases List.mem_cons.mp hb with z | z
    · rw [z]; exact ⟨_, he, fun v q => nomatch q⟩
    · rw [List.mem_singleton.mp z]; exact ⟨o, ho, fun v q => by rw [hd] at q; cases q⟩
  keep := fun i h h' st k => by
    obtain ⟨⟨old, he⟩, hi, hne⟩ := st
    exact ⟨⟨old, k e (by simp) _ he⟩, hi.at fun o q => k it (by simp) o q, hne⟩
  item := by
    intro X hP hw hK hc i pins s σ H E I hf st hg
    subst hP hw hK
    obtain ⟨⟨old, he⟩, hit, hne⟩ := st
    obtain ⟨xs, x, hq, hx⟩ := hg
    obtain ⟨its, rv, p, hz⟩ := I.tuple hq
    obtain ⟨u, hu, ru⟩ := rv.get hx
    have helt : e < s.heap.objs.size := Heap.lt_size he
    have hilt : it < s.heap.objs.size := by
      obtain ⟨_, q, _⟩ := hit
      exact Heap.lt_size q
    have hlt : i < its.toArray.size := by
      rw [List.size_toArray]
      exact (List.getElem?_eq_some_iff.mp hu).1
    have hef : e ∉ [it, a] := by
      intro z
      rcases List.mem_cons.mp z with q | q
      · exact hne q
      · exact hae (List.mem_singleton.mp q).symm
    refine wpAny_pyNext_enum_itemD (Draws.tuple (A := X.A.in1) (I.ok.hd hc) it a hai its.toArray) he ⟨hit, p⟩ hlt hne hef fun y h' tk hy ho hst' hT hsz hk => ?_
    have hy' : y = u := by
      have z : its.toArray[i]? = some u := by simpa using hu
      exact Option.some.inj (hy.symm.trans z)
    subst hy'
    refine ⟨_, rfl, wpAny_letOwnedTupleGo_enum (s := { s with heap := h', toks := tk + 1 }) ho fun h'' he' sb => ?_⟩
    have hT2 : h''.get? s.heap.objs.size = some { cls := .type "tuple", data := .seq #[.int i tk, y] } :=
      (sb.2 _ (Nat.ne_of_gt helt)).trans hT
    have new : ObjOk X.prog X.w (upd H s.heap.objs.size (.tup [.int (i : Nat), x])) h'' s.heap.objs.size (.tup [.int (i : Nat), x]) :=
      ⟨(by decide : 2 ≤ sizeLine), [.int i tk, y], .cons ⟨_, rfl⟩ (.cons ru .nil), _, hT2, rfl, _, rfl⟩
    have I1 : Inv X pins σ (upd H s.heap.objs.size (.tup [.int (i : Nat), x])) { s with heap := h'', toks := tk + 1 } :=
      I.turnedNew (ch := [e, it])
        (fun b ob hb q => (sb.2 b (fun z => hb (by simp [z]))).trans (hk b ob (fun z => hb (by simp [z])) (fun z => hb (by simp [z])) q)) hf (Nat.le_refl _) new
    refine ⟨.ref s.heap.objs.size, _, I1, rfl, ⟨_, x, rfl, I.hok.fresh (Nat.le_refl _), rfl, fun ys hy => by rw [I.tuple_inj hy hq]; exact hx⟩,
      ⟨⟨y, ?_⟩, hst'.1.at fun o q => (sb.2 it (Ne.symm hne)).trans q, hne⟩, fun b hb => ?_⟩
    · rw [show ((i + 1 : Nat) : Int) = (i : Int) + 1 by omega]
      exact he'
    · have hlt : b < s.heap.objs.size := by
        rcases List.mem_cons.mp hb with z | z
        · rw [z]; exact helt
        · rw [List.mem_singleton.mp z]; exact hilt
      rw [upd_ne (Nat.ne_of_lt hlt)]
      exact (hf b hb).1
  done := by
    intro X hP hw hK hc i pins s σ H E I hf st hg
    subst hP hw hK
    obtain ⟨⟨old, he⟩, hit, hne⟩ := st
    obtain ⟨xs, hq, hx⟩ := hg
    obtain ⟨its, rv, p, hz⟩ := I.tuple hq
    obtain ⟨f0, f1, f2, f3, f4, f5⟩ := hf it (by simp)
    have hl : its.toArray.size = i := by rw [List.size_toArray, ← rv.length, hx]
    have st : its.toArray.size = i → (s.heap.IsTupleIter it a its.toArray.size ∧ s.heap.IsTuple a its.toArray) := fun z => ⟨z ▸ hit, p⟩
    refine wpAny_pyNext_enum_endD (Draws.tuple (A := X.A.in1) (I.ok.hd hc) it a hai its.toArray) he (st hl) fun h' eb => ⟨rfl, ?_⟩
    exact I.turned (t' := s.toks) (fun b o hb q => eb b o hb q) f0 f1 f3 f4 f5
  self := fun A i s Q E st h => by
    obtain ⟨⟨_, he⟩, _⟩ := st
    exact wpAny_pyIter_enum he h
def iEnumT (K : PySem.W.Frag) (ta : TA) : TI := fun σ H R => ta σ H fun vs H1 => ∃ a xs, vs = [.ref a] ∧ SqT K H1 a xs ∧ R (Itu K a) H1
theorem pi_enumT {X : Cx} {e : Expr} {ta : TA} {p pos tpos : Pos} {elts : List Expr} {kk : Nat} (hg : Gl X "enumerate") (hm : X.mg "enumerate" = none) (ha : PA X [e] ta)
    (hs : starEach [e] X.env = [(false, eval e X.env)] := by rfl) : PI X (.Tuple elts kk tpos) (.Call (.Name "enumerate" p) [e] [] pos) (iEnumT X.K ta) := by
  refine ⟨fun pins s σ H R I h => Call_ (ld_blt I hg hm boot_enumerate (PyProof.Rows.callWith_type1 ?_ hs rfl))⟩
  refine thn (ha.run pos pins s σ H _ I h) fun us s1 ⟨vs, H1, I1, r1, a, xs, ex, hq, q⟩ => ?_
  subst ex
  obtain ⟨u, rfl, ru⟩ := vals1 r1
  obtain rfl : u = Value.ref a := ru
  obtain ⟨its, rv, p', hz⟩ := I1.tuple hq
  have hlt : a < s1.heap.objs.size := (by obtain ⟨o, ho, _⟩ := p'; exact Heap.lt_size ho)
  refine enum_call1 (begins_tuple a its.toArray) p' fun h' he hit hk => wpAny_pyIter_enum he ?_
  have I2 : Inv X pins σ H1 { s1 with heap := h' } := I1.kept (t' := s1.toks) hk
  refine ⟨s1.heap.objs.size + 1, [s1.heap.objs.size + 1, s1.heap.objs.size], _, _, H1, rfl, I2,
    turn_enumT a (s1.heap.objs.size + 1) s1.heap.objs.size (Nat.ne_of_lt (Nat.lt_succ_of_lt hlt)) (Nat.ne_of_lt hlt), ⟨⟨.none, he⟩, ⟨_, hit, rfl, rfl⟩, Nat.succ_ne_self _⟩, fun b hb => ?_, q⟩
  have hle : s1.heap.objs.size ≤ b := by
    rcases List.mem_cons.mp hb with z | z
    · rw [z]; exact Nat.le_add_right _ _
    · rw [List.mem_singleton.mp z]; exact Nat.le_refl _
  exact I1.fpOk hle (I1.hok.fresh hle)
end My

/-! An own error whose __init__ stores no field: it has no dict. -/
namespace My
open PySem PySem.Spec PyProof.Rows L2
def tMk0 (C : Addr) (sp : Sp) (ta : TA) : L2.St → Hp → XK → Prop := fun σ H Q => ta σ H fun vs H1 => vs.length ≤ 1000 ∧ ∀ a, H1 a = none →
  sp (.ref a :: vs) (upd H1 a (exo a C none)) (fun v H2 => v = .non ∧ H2 a = some (exo a C none) ∧ Q (.ref C) none (del H2 a)) (fun _ _ _ => False)
section
variable {X : Cx}
theorem end_nodict {pins : List (Addr × Obj)} {σ : L2.St} {H1 H2 : Hp} {hp hp2 h2 : Heap} {g1 g2 : Array GenState} {d1 d2 : Drawn} {t1 t2 : Nat} {os1 os2 : OsState} {a C : Addr}
    (I1 : Inv X pins σ H1 ⟨hp, g1, d1, t1, os1⟩) (above : hp.objs.size ≤ a) (kept : ∀ b o, hp.get? b = some o → hp2.get? b = some o)
    (un : Un (frs X.stack) [] (upd H1 a (exo a C none)) H2 hp2 h2) (ok : HOk X.prog X.w H2 h2) (sameOs : os2 = os1) (bare : AllBare g2) (ea : H2 a = some (exo a C none)) :
    ∃ (t0 : Addr) (G : Heap), Inv X pins σ (del H2 a) ⟨G, g2, d2, t2, os2⟩ ∧ (∀ b o, G.get? b = some o → h2.get? b = some o) ∧ G.get? a = none ∧
      h2.get? a = some ({ cls := .ref C, dict := none, data := .fields #[.ref t0, .none, .none, .none, .bool false, .none] } : Obj) := by
  obtain ⟨t0, obj⟩ := exo_at ok ea
  have free : H1 a = none := I1.hok.fresh above
  obtain ⟨G, in1, in2⟩ := restrict h2 fun b => decide (b ≠ a)
  have same : ∀ b, b ≠ a → G.get? b = h2.get? b := fun b hb => in1 b (decide_eq_true hb)
  have gone : G.get? a = none := in2 a (by simp)
  have other : ∀ {b : Addr} {o : Obj}, hp.get? b = some o → b ≠ a :=
    fun {_ _} z => Nat.ne_of_lt (Nat.lt_of_lt_of_le (Heap.lt_size z) above)
  have still : ∀ {b : Addr}, b ≠ a → H1 b = none → upd H1 a (exo a C none) b = none := fun {_} hb n => (upd_ne hb).trans n
  have newU : Un (frs X.stack) [] H1 (del H2 a) hp G := {
    keep := fun b o z n hf hx => (same b (other z)).trans (un.keep b o (kept b o z) (still (other z) n) hf hx)
    slot := fun b o z n hf hx => by
      obtain ⟨sl, e⟩ := un.slot b o (kept b o z) (still (other z) n) hf hx
      exact ⟨sl, (same b (other z)).trans e⟩
    free := fun b o z n hx => (del_ne (other z)).trans (un.free b o (kept b o z) (still (other z) n) hx)
    there := fun b o z hx => by
      obtain ⟨u, e⟩ := un.there b o (kept b o z) hx
      exact ⟨u, (same b (other z)).trans e⟩
    tups := fun b xs z => (del_ne (ne_of_none z free)).trans (un.tups b xs ((upd_ne (ne_of_none z free)).trans z))
    frzs := fun b o v z => (del_ne (ne_of_none z free)).trans (un.frzs b o v ((upd_ne (ne_of_none z free)).trans z))
    tbls := fun b ps z => by
      obtain ⟨more, e⟩ := un.tbls b ps ((upd_ne (ne_of_none z free)).trans z)
      exact ⟨more, (del_ne (ne_of_none z free)).trans e⟩ }
  have newOk : HOk X.prog X.w (del H2 a) G := by
    intro b o z
    have hba : b ≠ a := fun e => by
      rw [e, del_same] at z
      cases z
    rw [del_ne hba] at z
    have notOwn : ∀ {c : Addr}, H2 c = some (.own b) → c ≠ a := fun {_} hc => at_ne ea hc exo_own
    refine (ok b o z).stay (fun c v hc y => ?_) (fun c hc => (del_ne (notOwn hc)).trans hc) (fun c xs hc => (del_ne (at_ne ea hc exo_tup)).trans hc)
    have hca : c ≠ a := by
      rcases hc with hc | hc
      · rw [hc]; exact hba
      · exact notOwn hc
    exact (same c hca).trans y
  refine ⟨t0, G, I1.call' (ch := []) sameOs newU newOk bare (fun b z => absurd z (by simp)), fun b o z => ?_, gone, obj⟩
  by_cases hba : b = a
  · rw [hba, gone] at z
    cases z
  · exact (same b hba).symm.trans z
theorem pmk0 {x : Str} {C fI : Addr} {k : Nat} {fd : FuncData} {ps : List Str} {sp : Sp} {e : Expr} {es : List Expr} {ta : TA} {p pos : Pos}
    (T : OexC X.K C) (iC : PySem.W.findIn X.K (.ref C) "__init__" = some (some (.ref fI))) (tI : PySem.W.typeIn X.K (.ref fI) = some (.type "function"))
    (F1 : FnOk X.prog X.w X.K X.mg X.base CX0 k fI fd ps sp) (hr : Room (k + 1) X.A) (hb : Binds X.K fd ps []) (hm : X.mg x = some (.ref C)) (ha : PA X (e :: es) ta) (hg : Gl X x := by rfl)
    (hdb : (x == ("__debug__" : Str)) = false := by decide) (he : starEach (e :: es) X.env = (false, eval e X.env) :: starEach es X.env := by rfl)
    (hpl : (backTo pos (starEach es X.env)).any (·.1) = false := by rfl) : PMk X (.Call (.Name x p) (e :: es) [] pos) (tMk0 C sp ta) := by
  intro pins s σ H Q I h
  obtain ⟨nm, q, N, bs, bm, sn, sub, ab, col, dd, k0, k1, k2, k3, k5, hC, hbm⟩ := T.cls
  refine wpAny_Call_Name_kw (ld_glob I hg hm ?_ hdb)
  refine PySem.W.callWith_K (h₀ := X.base) I.ok.mod.kin T.kC
    (thn (ha.run pos pins s σ H _ I h) fun us s1 ⟨vs, H1, I1, rel, few, want⟩ => ⟨I1.kIn, ?_⟩) he hpl
  show wpAny _ _ (call (.ref C) us) _ _ _
  obtain ⟨hp, g, dr, tk, os⟩ := s1
  have up : hp.objs.size ≤ hp.objs.size + 1 := Nat.le_succ _
  have goal1 := want (hp.objs.size + 1) (I1.hok.fresh up)
  have kept : ∀ b o, hp.get? b = some o → ((hp.push (PySem.W.kdv_tup us)).push (PySem.HandSPX.excO C hp.objs.size)).get? b = some o :=
    fun b o e => Heap.get?_push_of_some _ (Heap.get?_push_of_some _ e)
  have there : ((hp.push (PySem.W.kdv_tup us)).push (PySem.HandSPX.excO C hp.objs.size)).get? (hp.objs.size + 1) = some (PySem.HandSPX.excO C hp.objs.size) := by
    heap_get
  have I2 : Inv X pins σ (upd H1 (hp.objs.size + 1) (exo (hp.objs.size + 1) C none)) ⟨(hp.push (PySem.W.kdv_tup us)).push (PySem.HandSPX.excO C hp.objs.size), g, dr, tk, os⟩ :=
    I1.laid (t' := tk) (o := exo (hp.objs.size + 1) C none) kept up
      (exo_ok there)
  have rel2 : Vals (V.ref (hp.objs.size + 1) :: vs) (Value.ref (hp.objs.size + 1) :: us) := .cons rfl rel
  have len : (Value.ref (hp.objs.size + 1) :: us ++ []).length = ps.length := by
    have z := rel2.length
    rw [F1.len _ _ _ _ goal1] at z
    rw [List.append_nil]
    exact z.symm
  have small : us.length ≤ sizeLine := by
    rw [← Paired.length rel]
    exact Nat.le_trans few (by decide)
  have bind0 := hb _ (Value.ref (hp.objs.size + 1) :: us) I2.kIn len
  rw [List.append_nil] at bind0
  refine wpAny_call (PySem.HandSPX.call_own F.excBase_ValueError (fun Y => PySem.HandSPX.refsVE_contains Y bm hbm) (I1.kIn _ _ hC)
    (PySem.W.looks_findIn I1.kIn iC) (fun self => PySem.W.bind_fn I1.kIn self tI) small
    (codeAny_mono (F1.run _ X.stack _ _ ⟨Value.ref (hp.objs.size + 1) :: us, []⟩ (Value.ref (hp.objs.size + 1) :: us) _ _ (fun _ _ _ => False) (hr.make C us []) (I2.env0.make C us []) bind0 rel2 goal1) ?_))
  intro r s' hq
  match r, hq with
  | .error er, hq => exact (show False from hq).elim
  | .ok (.ret u), hq =>
    obtain ⟨v, H2, os2, bare2, un2, ok2, rv, rfl, ea, q2⟩ := hq
    obtain ⟨h2, g2, d2, t2, os'⟩ := s'
    obtain ⟨t0, G, J, inG, gone, obj⟩ := end_nodict (d2 := d2) (t2 := t2) I1 up kept un2 ok2 os2 bare2 ea
    exact ⟨rv, hp.objs.size + 1, _, _, ⟨G, g2, d2, t2, os'⟩, _, .ref C, none, rfl, J, inG, gone, obj, ⟨rfl, rfl⟩, rfl, rfl, del_same, rfl, bare2, raises_own T.exC T.tyC, q2⟩
theorem del_new {H : Hp} {a : Addr} {o : HO} (h : H a = none) : del (upd H a o) a = H := by
  funext b
  unfold del upd
  by_cases e : b = a
  · rw [if_pos e, e, h]
  · rw [if_neg e, if_neg e]
end
end My

/-! try with several clauses, each with a name for the exception or without one. -/
namespace My
open PySem PySem.Spec PyProof.Rows L2
abbrev Suite := Addr → Value → Option Addr → L2.TS
/-- where the suite goes on: the name's slot is emptied -/
def endsAs (D : Ends) (i : Nat) : Ends where
  nx := fun σ H => D.nx (σ.set i none) H
  rt := D.rt
  bk := fun σ H => D.bk (σ.set i none) H
  ct := fun σ H => D.ct (σ.set i none) H
def wHs (K : PySem.W.Frag) (Wout : WX) (D : Ends) : List (Value × Option Nat × Suite) → WX
  | [] => Wout
  | (c, none, ts) :: r => fun cls d σ H => ∃ b, PySem.W.exmOne K cls c = some b ∧
    (b = true → ∀ a, H a = none → ts a cls d D σ H) ∧ (b = false → wHs K Wout D r cls d σ H)
  | (c, some i, ts) :: r => fun cls d σ H => ∃ b, PySem.W.exmOne K cls c = some b ∧
    (b = true → ∀ a, H a = none → ts a cls d (endsAs D i) (σ.set i (some (.ref a))) H) ∧ (b = false → wHs K Wout D r cls d σ H)
def SuiteOk (X : Cx) (body : List Stmt) (ts : Suite) : Prop :=
  ∀ (a : Addr) (oe : Obj) (cls : Value) (d : Option Addr) (pn : List (Addr × Obj)), Zc cls d oe → (∃ vs, oe.data = .fields vs) →
    PSs (X.suite a ((a, oe) :: pn)) body (ts a cls d)
inductive Hs (X : Cx) : List ExceptHandler → List (Value × Option Nat × Suite) → Prop
  | nil : Hs X [] []
  | bare {x : Str} {c : Value} {ts : Suite} {b₀ : Stmt} {suite : List Stmt} {np pos' : Pos} {hds : List ExceptHandler} {l : List (Value × Option Nat × Suite)}
      (hc : Names X x c) (hsu : SuiteOk X (b₀ :: suite) ts) (r : Hs X hds l) : Hs X (.ExceptHandler (some (.Name x np)) none (b₀ :: suite) pos' :: hds) ((c, none, ts) :: l)
  | as {x n : Str} {i : Nat} {c : Value} {ts : Suite} {b₀ : Stmt} {suite : List Stmt} {np pos' : Pos} {hds : List ExceptHandler} {l : List (Value × Option Nat × Suite)}
      (hi : X.N[i]? = some n) (hln : X.env.kindOf n = some .local) (hc : Names X x c) (hsu : SuiteOk X (b₀ :: suite) ts) (r : Hs X hds l) :
      Hs X (.ExceptHandler (some (.Name x np)) (some n) (b₀ :: suite) pos' :: hds) ((c, some i, ts) :: l)
section
variable {X : Cx} {body : List Stmt} {h₀ : ExceptHandler} {hds : List ExceptHandler} {l : List (Value × Option Nat × Suite)} {pos : Pos} {tb : WX → L2.TS} {Wout : WX}
theorem ps_try_hs (stk : X.stack = X.env :: X.outer) (frm : X.env.frame = some X.env.locals) (nd : X.N.Nodup) (out : Takes X Wout)
    (hb : ∀ (W : WX) (pn : List (Addr × Obj)) (xe : Value → Shared → Prop), Takes (X.tr pn xe) W → PassesOwn (model X.prog X.w) X.A X.env xe → PSs (X.tr pn xe) body (tb W))
    (clauses : Hs X (h₀ :: hds) l) : PS X (.Try body (h₀ :: hds) [] [] pos) (fun D σ H => tb (wHs X.K Wout D l) D σ H) := by
  refine ⟨fun pins s σ H D I want => ?_⟩
  have ok := I.ok
  have frames : X.A.frames = some (X.env :: X.outer) := by rw [ok.frames, stk]
  refine wpAny_Try_except ?_
  let catcher : Value → Shared → Prop := fun e s₁ => wpAny (model X.prog X.w) X.A (noteFrame e X.env) (fun _ s₂ =>
    wpAny (model X.prog X.w) X.A (setFlight e none) (fun _ s₃ => wpAny (model X.prog X.w) X.A (handleBy e X.env (h₀ :: hds)) (SP X pins D) X.xe s₃) X.xe s₂) X.xe s₁
  have inBody := hb (wHs X.K Wout D l) (X.pn ++ pins) catcher (fun u s' xx => ?caught) PassesOwn.looking
  case caught =>
    obtain ⟨a, B, sI, pins', σ', H', cls, d, rfl, J', nb, up, sky, na, os, ag, wish⟩ := xx
    have J : Inv X pins σ' H' sI := J'.ofTry ok
    have sky' : Sky B (X.env :: X.outer) a (Zc cls d) X.env.locals s'.heap := stk ▸ sky
    show wpAny (model X.prog X.w) X.A (noteFrame (.ref a) X.env) _ _ _
    refine Sky.land Zc.steady frames frm sky' fun h3 fl3 up3 => ?_
    have J3 : Inv X pins σ' H' { s' with heap := h3 } := J.landed nb fl3.1 (up.trans up3) os ag
    obtain ⟨oe3, vs3, he3, hz3, hd3⟩ := fl3.there
    have noFrame : a ∉ frs (X.env :: X.outer) := fun hm => by
      obtain ⟨_, o', e', hnf⟩ := fl3.2.2.1.mem hm
      rw [he3] at e'
      cases e'
      exact hnf _ hd3
    have nL : a ≠ X.env.locals := fun z => noFrame (List.mem_filterMap.mpr ⟨X.env, List.mem_cons_self, by rw [frm, z]⟩)
    have nF : a ∉ X.fs := fun hm => by
      obtain ⟨e, he, q⟩ := List.mem_filterMap.mp hm
      exact noFrame (List.mem_filterMap.mpr ⟨e, List.mem_cons_of_mem _ he, q⟩)
    have S3 := J3.suite he3 hd3 na nL nF
    have typ : PySem.W.Looks (model X.prog X.w) h3 (typeOf (.ref a)) cls := fun A Q E s k q =>
      wpAny_typeOf_ref (k _ _ he3) (by rw [hz3.1]; exact q)
    have named : ∀ {x : Str} {c : Value} {np : Pos}, Names X x c → ∀ {Q : Value → Shared → Prop} {E : Value → Shared → Prop}, Q c { s' with heap := h3 } →
        wpAny (model X.prog X.w) (X.A.mark (some (.ref a))) (eval (.Name x np) X.env) Q E { s' with heap := h3 } := by
      intro x c np hc Q E q
      obtain ⟨hg, hdbg, hm | ⟨hm, hv, hnn⟩⟩ := hc
      · exact ld_glob (X := X.suite a ((a, oe3) :: (X.pn ++ pins))) S3 hg hm q
          hdbg
      · exact ld_blt (X := X.suite a ((a, oe3) :: (X.pn ++ pins))) S3 hg hm hv q
          hnn hdbg
    have go : ∀ {hds' : List ExceptHandler} {l' : List (Value × Option Nat × Suite)}, Hs X hds' l' → wHs X.K Wout D l' cls d σ' H' →
        wpAny (model X.prog X.w) X.A (handleBy (.ref a) X.env hds') (SP X pins D) X.xe { s' with heap := h3 } := by
      intro hds' l' hk
      induction hk with
      | nil =>
        intro wish
        refine wpAny_handleBy_nil ?_
        obtain ⟨k1, k2, k3, oe, vs, T, oT, ts', he, hz, hd, h1, hr⟩ := id fl3
        unfold PySem.passOn
        refine wpAny_bind (wpAny_field he hd h1 ?_)
        rw [if_neg (show ¬ ((Value.ref T == Value.none) = true) from by simp)]
        have away : wpAny (model X.prog X.w) X.A (setFlight (.ref a) X.env.frame) (fun _ s4 => wpAny (model X.prog X.w) X.A (throw (.ref a) : Sem Flow) (SP X pins D) X.xe s4) X.xe
            { s' with heap := h3 } := by
          rw [frm]
          refine HandSPX.setFlight_upZ fl3 fun h4 hh4 up4 => wpAny_throw (out _ _ ?_)
          exact ⟨a, B, sI, pins, σ', H', cls, d, rfl, J, nb, (up.trans up3).trans up4,
            .inr (.inr (by rw [stk]; exact hh4)), na, os, ag, wish⟩
        first
          | exact wpAny_bind (wpAny_pure (wpAny_bind away))
          | exact wpAny_bind away
      | @bare x c ts b₀ suite np pos' hds2 l2 hc hsu r ih =>
        intro wish
        obtain ⟨b, hb1, yes, no⟩ := wish
        refine wpAny_handleBy_cons (codeAny_handlers_test ?_) (fun q => by cases q)
        refine named hc ((PySem.W.exm_one (M := model X.prog X.w) J3.kIn typ hb1).here ?_)
        cases b with
        | true =>
          refine codeAny_handlers_suite (HandSPX.lands_againZ fl3 fun h4 fl4 up4 => ?_)
          have J4 : Inv X pins σ' H' { s' with heap := h4 } := J.landed nb fl4.1
            ((up.trans up3).trans up4) os ag
          obtain ⟨oe4, vs4, he4, hz4, hd4⟩ := fl4.there
          have S4 := J4.suite he4 hd4 na nL nF
          refine wpAny_mono ((hsu a oe4 cls d (X.pn ++ pins) hz4 ⟨_, hd4⟩).run [] _ _ H' _ S4 (yes rfl a na)) (fun f s6 hsp => ?_)
            (fun _ _ z => False.elim z)
          cases f with
          | next => exact hsp.imp fun _ ⟨H6, S6, q6⟩ => ⟨H6, S6.unsuite ok, q6⟩
          | brk => exact hsp.imp fun _ ⟨H6, S6, q6⟩ => ⟨H6, S6.unsuite ok, q6⟩
          | cont => exact hsp.imp fun _ ⟨H6, S6, q6⟩ => ⟨H6, S6.unsuite ok, q6⟩
          | ret u => exact hsp.imp fun _ ⟨σ6, H6, S6, r6, q6⟩ => ⟨σ6, H6, S6.unsuite ok, r6, q6⟩
        | false =>
          show wpAny _ X.A (handleBy (.ref a) X.env hds2) _ _ _
          exact ih (no rfl)
      | @as x n i c ts b₀ suite np pos' hds2 l2 hi hln hc hsu r ih =>
        intro wish
        obtain ⟨b, hb1, yes, no⟩ := wish
        refine wpAny_handleBy_cons (codeAny_handlers_test ?_) (fun q => by cases q)
        refine named hc ((PySem.W.exm_one (M := model X.prog X.w) J3.kIn typ hb1).here ?_)
        cases b with
        | true =>
          refine codeAny_handlers_suite_as (HandSPX.lands_againZ fl3 fun h4 fl4 up4 => ?_)
          have J4 : Inv X pins σ' H' { s' with heap := h4 } := J.landed nb fl4.1
            ((up.trans up3).trans up4) os ag
          obtain ⟨oe4, vs4, he4, hz4, hd4⟩ := fl4.there
          have S4 := J4.suite he4 hd4 na nL nF
          have hloc : Loc X.env.scope n := Or.inl hln
          refine store_ok (X := X.suite a ((a, oe4) :: (X.pn ++ pins))) (v := .ref a) S4 nd hi hloc rfl (fun s5 S5 => ?_)
            (Or.inr hln)
          refine wpAny_mono ((hsu a oe4 cls d (X.pn ++ pins) hz4 ⟨_, hd4⟩).run [] s5 _ H' _ S5 (yes rfl a na))
            (fun f s6 hsp => ?_) (fun _ _ z => False.elim z)
          have fin : ∀ {σ6 : L2.St} {H6 : Hp} {Q : Shared → Prop}, Inv (X.suite a ((a, oe4) :: (X.pn ++ pins))) [] σ6 H6 s6 → (∀ s7, Inv X pins (σ6.set i none) H6 s7 → Q s7) →
              wpAny (model X.prog X.w) X.A (do bindName X.env n .none; unbindBehindTheSuite X.env n pos') (fun _ s7 => Q s7) X.xe s6 :=
            fun {_ _ _} S6 hq => gone_ok (S6.unsuite ok) nd hi hln hq
          cases f with
          | next =>
            obtain ⟨σ6, H6, S6, q6⟩ := hsp
            exact fin S6 fun s7 J7 => ⟨σ6.set i none, H6, J7, q6⟩
          | brk =>
            obtain ⟨σ6, H6, S6, q6⟩ := hsp
            exact fin S6 fun s7 J7 => ⟨σ6.set i none, H6, J7, q6⟩
          | cont =>
            obtain ⟨σ6, H6, S6, q6⟩ := hsp
            exact fin S6 fun s7 J7 => ⟨σ6.set i none, H6, J7, q6⟩
          | ret u =>
            obtain ⟨v6, σ6, H6, S6, r6, q6⟩ := hsp
            exact fin S6 fun s7 J7 => ⟨v6, σ6.set i none, H6, J7, r6, q6⟩
        | false =>
          show wpAny _ X.A (handleBy (.ref a) X.env hds2) _ _ _
          exact ih (no rfl)
    exact go clauses wish
  refine wpAny_mono (inBody.run [] s σ H D (I.toTry _) want) (fun f s1 hsp => ?_) (fun e s1 he => he)
  cases f with
  | next => exact wpAny_execs_nil (hsp.imp fun _ ⟨H', J', q⟩ => ⟨H', J'.ofTry ok, q⟩)
  | brk => exact hsp.imp fun _ ⟨H', J', q⟩ => ⟨H', J'.ofTry ok, q⟩
  | cont => exact hsp.imp fun _ ⟨H', J', q⟩ => ⟨H', J'.ofTry ok, q⟩
  | ret u => exact hsp.imp fun _ ⟨σ', H', J', r, q⟩ => ⟨σ', H', J'.ofTry ok, r, q⟩
end
end My

/-! try: .. except (C1, .., Cn) as e: x = e. The exception that is caught stands as a value of its own. -/
namespace My
open PySem PySem.Spec PyProof.Rows L2
theorem flyZ_keep {B h h' : Heap} {l : List Env} {a : Addr} {Z : Obj → Prop} (f : HandSPX.FlyingZ B l a Z h) (k : ∀ b o, h.get? b = some o → h'.get? b = some o) : HandSPX.FlyingZ B l a Z h' := by
  obtain ⟨g1, g2, g3, oe, vs, T, oT, ts, he, hz, hd, h1, hnT, hTe, hT, hdT, h3⟩ := f
  exact ⟨fun b o q => k b o (g1 b o q), g2, g3.of_keeps fun b o q _ => ⟨o, k b o q, rfl⟩, oe, vs, T, oT, ts, k _ _ he, hz, hd, h1, hnT, hTe, k _ _ hT, hdT, h3⟩
section
variable {M : Model} {K : PySem.W.Frag}
/-- which of the classes are asked, one by one -/
def exmEach (K : PySem.W.Frag) (cls : Value) : List Value → List Bool → Prop
  | [], [] => True
  | c :: r, b :: q => PySem.W.exmOne K cls c = some b ∧ exmEach K cls r q
  | _, _ => False
theorem each_exc {h : Heap} {cls : Value} (X : K.In h) {T : Value → Sem (ForInStep PUnit)} {A : Around} {E : Value → Shared → Prop} {Q : PUnit → Shared → Prop} {s : Shared} (k : ∀ b o, h.get? b = some o → s.heap.get? b = some o) (q : Q PUnit.unit s) :
    ∀ {cs : List Value} {bs : List Bool}, exmEach K cls cs bs →
    wpAny M A (forIn cs PUnit.unit fun c _ => do
      let d ← isExcClass c
      if (!d) = true then T c else pure (ForInStep.yield PUnit.unit)) Q E s
  | [], [], _ => by
    simp only [List.forIn_nil]
    exact wpAny_pure q
  | c :: r, b :: bs, hc => by
    obtain ⟨e1, S1⟩ := PySem.W.exm_cls (M := M) X hc.1
    rw [List.forIn_cons]
    refine wpAny_bind (wpAny_bind ((e1.keeps k).here ?_))
    rw [show (!true) = false from rfl, if_neg Bool.false_ne_true]
    refine wpAny_pure ?_
    exact each_exc X k q hc.2
  | [], _ :: _, hc => hc.elim
  | _ :: _, [], hc => hc.elim
theorem each_sub {h : Heap} {cls : Value} (X : K.In h) {A : Around} {E : Value → Shared → Prop} {Q : Option Bool × Unit → Shared → Prop} {s : Shared} (k : ∀ b o, h.get? b = some o → s.heap.get? b = some o) :
    ∀ {cs : List Value} {bs : List Bool}, exmEach K cls cs bs → Q (if bs.any id = true then some true else none, ()) s →
    wpAny M A (forIn cs ((none : Option Bool), ()) fun c _ => do
        let d ← isSubtype cls c
        if d = true then pure (ForInStep.done (some true, ())) else pure (ForInStep.yield (none, ()))) Q E s
  | [], [], _, q => by
    simp only [List.forIn_nil]
    exact wpAny_pure q
  | c :: r, b :: bs, hc, q => by
    obtain ⟨e1, S1⟩ := PySem.W.exm_cls (M := M) X hc.1
    rw [List.forIn_cons]
    refine wpAny_bind (wpAny_bind ((S1.keeps k).here ?_))
    cases b with
    | true =>
      rw [if_pos rfl]
      exact wpAny_pure (wpAny_pure q)
    | false =>
      rw [if_neg Bool.false_ne_true]
      exact wpAny_pure (each_sub X k (A := A) (E := E) (Q := Q) hc.2 q)
  | [], _ :: _, hc, _ => hc.elim
  | _ :: _, [], hc, _ => hc.elim
theorem exm_list {cls : Value} {tp e : Addr} {cs : List Value} {bs : List Bool} {h : Heap} (X : K.In h) (LT : PySem.W.Looks M h (typeOf (.ref e)) cls) (hp : h.get? tp = some { cls := .type "tuple", data := .seq cs.toArray }) (hx : exmEach K cls cs bs) :
    PySem.W.Looks M h (excMatches (.ref e) (.ref tp)) (bs.any id) := by
  intro A Q E s k q
  have LT0 : PySem.W.Looks M h (isInstance (.ref tp) (.type "tuple")) true := ((PySem.W.Looks.ld hp).andThen .now).andThen (PySem.W.Looks.of_pure isSubtype_tuple_tuple)
  unfold excMatches
  refine wpAny_bind ((LT0.keeps k).here ?_)
  rw [if_pos rfl]
  refine wpAny_bind (wpAny_seqItems (k _ _ hp) rfl ?_)
  dsimp only [Option.getD_some, Option.getD]
  refine wpAny_bind (wpAny_pure ?_)
  refine wpAny_bind (each_exc X k ?_ hx)
  refine wpAny_bind ((LT.keeps k).here ?_)
  refine wpAny_bind (each_sub X k hx ?_)
  cases he : bs.any id with
  | true =>
    rw [he] at q
    exact wpAny_pure q
  | false =>
    rw [he] at q
    exact wpAny_pure q
end
end My

namespace My
open PySem PySem.Spec PyProof.Rows L2
/-- at a: an exception that was caught, of the class cls, its dict -/
def exT (a : Addr) (cls : Value) (d : Option Addr) : HO := .ext fun h => ∃ (oe : Obj) (vs : Array Value), h.get? a = some oe ∧ Zc cls d oe ∧ oe.data = .fields vs
theorem exT_ne {a : Addr} {cls : Value} {d : Option Addr} {u : HO} (h : ∀ φ, u ≠ .ext φ) : exT a cls d ≠ u := fun z => by
  have z' : HO.ext _ = u := z
  exact h _ z'.symm
theorem exT_ok {P : Program} {w : World} {H : Hp} {h : Heap} {a : Addr} {cls : Value} {d : Option Addr} {oe : Obj} {vs : Array Value} (e : h.get? a = some oe) (z : Zc cls d oe) (f : oe.data = .fields vs) : ObjOk P w H h a (exT a cls d) :=
  ⟨⟨oe, vs, e, z, f⟩, ⟨oe, e⟩, fun h1 h2 q k => by
    obtain ⟨o, v, e1, e2, e3⟩ := q
    exact ⟨o, v, k _ e1, e2, e3⟩⟩
theorem exT_at {P : Program} {w : World} {H : Hp} {h : Heap} {a : Addr} {cls : Value} {d : Option Addr} (hok : HOk P w H h) (e : H a = some (exT a cls d)) : ∃ (oe : Obj) (vs : Array Value), h.get? a = some oe ∧ Zc cls d oe ∧ oe.data = .fields vs := by
  have x : ObjOk P w H h a (.ext fun h => ∃ (oe : Obj) (vs : Array Value), h.get? a = some oe ∧ Zc cls d oe ∧ oe.data = .fields vs) := hok a _ e
  exact x.1
/-- an object that nobody knows yet is known from now on -/
theorem inv_adopt {X : Cx} {pins : List (Addr × Obj)} {σ : L2.St} {H : Hp} {s : Shared} {a : Addr} {u : HO} (I : Inv X pins σ H s) (hn : H a = none) (h0 : X.s_0.heap.get? a = none) (hl : a ≠ X.env.locals)
    (hc : ∀ x c, X.env.cells.lookup x = some c → c ≠ a) (hp : ∀ p ∈ X.pn ++ pins, p.1 ≠ a) (ok : ObjOk X.prog X.w (upd H a u) s.heap a u) : Inv X pins σ (upd H a u) s where
  ok := I.ok
  os := I.os
  bare := I.bare
  base := {
    keep := I.base.keep
    slot := I.base.slot
    free := fun b o e n x => by
      have nb : b ≠ a := fun z => by
        rw [z, h0] at e
        cases e
      rw [upd_ne nb]
      exact I.base.free b o e n x
    there := I.base.there
    tups := fun b xs e => by
      have q := I.base.tups b xs e
      rw [upd_ne (ne_of_none q hn)]
      exact q
    frzs := fun b o v e => by
      have q := I.base.frzs b o v e
      rw [upd_ne (ne_of_none q hn)]
      exact q
    tbls := fun b ps e => by
      obtain ⟨more, q⟩ := I.base.tbls b ps e
      refine ⟨more, ?_⟩
      rw [upd_ne (ne_of_none q hn)]
      exact q }
  loc := I.loc
  cell := I.cell
  free := by
    rw [upd_ne (Ne.symm hl)]
    exact I.free
  freeC := fun x c e => by
    rw [upd_ne (hc x c e)]
    exact I.freeC x c e
  pin := fun p m => by
    obtain ⟨p1, p2, p3⟩ := I.pin p m
    refine ⟨p1, ?_, p3⟩
    rw [upd_ne (hp p m)]
    exact p2
  hok := fun b o e => by
    by_cases hb : b = a
    · rw [hb, upd_same] at e
      cases e
      rw [hb]
      exact ok
    · rw [upd_ne hb] at e
      exact (I.hok b o e).stay (fun _ _ _ q => q) (fun c q => by rw [upd_ne (ne_of_none q hn)]; exact q) fun c xs q => by rw [upd_ne (ne_of_none q hn)]; exact q
  len := I.len
/-- the names of classes, in a tuple -/
def NamesL (X : Cx) : List Expr → List Value → Prop
  | [], [] => True
  | .Name x _ :: es, c :: cs => Names X x c ∧ NamesL X es cs
  | _, _ => False
def wKeep (K : PySem.W.Frag) (Wout : WX) (D : Ends) (n i j : Nat) (cs : List Value) : WX := fun cls d σ H => ∃ bs : List Bool, exmEach K cls cs bs ∧
  (bs.any id = true → σ.length = n → ∀ a, H a = none → D.nx (((σ.set i (some (.ref a))).set j (some (.ref a))).set i none) (upd H a (exT a cls d))) ∧ (bs.any id = false → Wout cls d σ H)
section
variable {X : Cx} {body : List Stmt} {elts : List Expr} {cs : List Value} {n c : Str} {i j kk : Nat} {tpos pos' apos cp np pos : Pos} {tb : WX → L2.TS} {Wout : WX}
theorem ps_try_keep (hex : X.ex = []) (stk : X.stack = X.env :: X.outer) (frm : X.env.frame = some X.env.locals) (nd : X.N.Nodup) (hi : X.N[i]? = some n) (hln : X.env.kindOf n = some .local) (hj : X.N[j]? = some c) (hlc : X.env.kindOf c = some .local) (hij : i ≠ j)
    (hdn : (n == ("__debug__" : Str)) = false) (hcn : (n == ("__classdict__" : Str)) = false) (names : NamesL X elts cs) (hsz : cs.length ≤ sizeLine) (out : Takes X Wout)
    (hb : ∀ (W : WX) (pn : List (Addr × Obj)) (xe : Value → Shared → Prop), Takes (X.tr pn xe) W → PassesOwn (model X.prog X.w) X.A X.env xe → PSs (X.tr pn xe) body (tb W)) :
    PS X (.Try body [.ExceptHandler (some (.Tuple elts kk tpos)) (some n) [.Assign [.Name c cp] (.Name n np) apos] pos'] [] [] pos) (fun D σ H => tb (wKeep X.K Wout D X.N.length i j cs) D σ H) := by
  refine ⟨fun pins s σ H D I want => ?_⟩
  have ok := I.ok
  have frames : X.A.frames = some (X.env :: X.outer) := by rw [ok.frames, stk]
  refine wpAny_Try_except ?_
  let hds : List ExceptHandler := [.ExceptHandler (some (.Tuple elts kk tpos)) (some n) [.Assign [.Name c cp] (.Name n np) apos] pos']
  let catcher : Value → Shared → Prop := fun e s₁ => wpAny (model X.prog X.w) X.A (noteFrame e X.env) (fun _ s₂ =>
    wpAny (model X.prog X.w) X.A (setFlight e none) (fun _ s₃ => wpAny (model X.prog X.w) X.A (handleBy e X.env hds) (SP X pins D) X.xe s₃) X.xe s₂) X.xe s₁
  have inBody := hb (wKeep X.K Wout D X.N.length i j cs) (X.pn ++ pins) catcher (fun u s' xx => ?caught) PassesOwn.looking
  case caught =>
    obtain ⟨a, B, sI, pins', σ', H', cls, d, rfl, J', nb, up, sky, na, os, ag, wish⟩ := xx
    have J : Inv X pins σ' H' sI := J'.ofTry ok
    have sky' : Sky B (X.env :: X.outer) a (Zc cls d) X.env.locals s'.heap := stk ▸ sky
    show wpAny (model X.prog X.w) X.A (noteFrame (.ref a) X.env) _ _ _
    refine Sky.land Zc.steady frames frm sky' fun h3 fl3 up3 => ?_
    have J3 : Inv X pins σ' H' { s' with heap := h3 } := J.landed nb fl3.1 (up.trans up3) os ag
    obtain ⟨oe3, vs3, he3, hz3, hd3⟩ := fl3.there
    have noFrame : a ∉ frs (X.env :: X.outer) := fun hm => by
      obtain ⟨_, o', e', hnf⟩ := fl3.2.2.1.mem hm
      rw [he3] at e'
      cases e'
      exact hnf _ hd3
    have nL : a ≠ X.env.locals := fun z => noFrame (List.mem_filterMap.mpr ⟨X.env, List.mem_cons_self, by rw [frm, z]⟩)
    have nF : a ∉ X.fs := fun hm => by
      obtain ⟨e, he, q⟩ := List.mem_filterMap.mp hm
      exact noFrame (List.mem_filterMap.mpr ⟨e, List.mem_cons_of_mem _ he, q⟩)
    -- the exception is new
    have inStk : ∀ b, b ∈ frs X.stack → b = X.env.locals ∨ b ∈ X.fs := fun b hm => by
      rw [stk] at hm
      obtain ⟨e, he, q⟩ := List.mem_filterMap.mp hm
      rcases List.mem_cons.mp he with z | z
      · rw [z, frm] at q
        exact .inl (Option.some.inj q).symm
      · exact .inr (List.mem_filterMap.mpr ⟨e, z, q⟩)
    have notI : ∀ o, sI.heap.get? a = some o → False := fun o q => by
      have q2 := nb a o q (stk ▸ noFrame)
      rw [fl3.2.1] at q2
      cases q2
    have h0 : X.s_0.heap.get? a = none := by
      cases q : X.s_0.heap.get? a with
      | none => rfl
      | some o =>
        obtain ⟨o', q'⟩ := J.base.there a o q (by rw [hex]; simp)
        exact (notI o' q').elim
    have hpn : ∀ p ∈ X.pn ++ pins, p.1 ≠ a := fun p hm z => by
      obtain ⟨p1, _⟩ := J.pin p hm
      rw [z] at p1
      exact notI _ p1
    have typ : ∀ {h : Heap}, (∀ b o, h3.get? b = some o → h.get? b = some o) → PySem.W.Looks (model X.prog X.w) h (typeOf (.ref a)) cls := fun {h} kh A Q E s k q =>
      wpAny_typeOf_ref (k _ _ (kh _ _ he3)) (by rw [hz3.1]; exact q)
    obtain ⟨bs, hbs, yes, no⟩ := wish
    have S3 := J3.suite he3 hd3 na nL nF
    have named : ∀ {x : Str} {c : Value} {np : Pos}, Names X x c → ∀ {Q : Value → Shared → Prop} {E : Value → Shared → Prop}, Q c { s' with heap := h3 } →
        wpAny (model X.prog X.w) (X.A.mark (some (.ref a))) (eval (.Name x np) X.env) Q E { s' with heap := h3 } := by
      intro x c np hc Q E q
      obtain ⟨hg, hdbg, hm | ⟨hm, hv, hnn⟩⟩ := hc
      · exact ld_glob (X := X.suite a ((a, oe3) :: (X.pn ++ pins))) S3 hg hm q hdbg
      · exact ld_blt (X := X.suite a ((a, oe3) :: (X.pn ++ pins))) S3 hg hm hv q hnn hdbg
    let s3 : Shared := { s' with heap := h3 }
    let tpo : Obj := { cls := .type "tuple", data := .seq cs.toArray }
    have kpush : ∀ b o, h3.get? b = some o → (h3.push tpo).get? b = some o := fun _ _ q => Heap.get?_push_of_some _ q
    -- the tuple of the classes
    have tupled : ∀ {Q : Value → Shared → Prop} {E : Value → Shared → Prop}, Q (.ref h3.objs.size) { s' with heap := h3.push tpo } →
        wpAny (model X.prog X.w) (X.A.mark (some (.ref a))) (eval (.Tuple elts kk tpos) X.env) Q E s3 := by
      intro Q E q
      refine wpAny_Tuple ?_
      have go : ∀ (es : List Expr) (ds : List Value), NamesL X es ds → ∀ {R : List Value → Shared → Prop}, R ds s3 → wpAny (model X.prog X.w) (X.A.mark (some (.ref a))) (spliced (backTo tpos (starEach es X.env))) R E s3 := by
        intro es ds
        induction es generalizing ds with
        | nil =>
          intro hn R r
          match ds, hn with
          | [], _ => exact wpAny_items_nil r
        | cons e es ih =>
          intro hn R r
          match e, ds, hn with
          | .Name x p, c0 :: ds, hn => exact wpAny_items_cons (named hn.1 (ih ds hn.2 (R := fun vs s₂ => R (c0 :: vs) s₂) r))
      exact go elts cs names ⟨hsz, q⟩
    refine wpAny_handleBy_cons (codeAny_handlers_test ?_) (fun q => by cases q)
    refine tupled ((exm_list (M := model X.prog X.w) (h := h3.push tpo) (J3.kIn.keeps kpush) (typ kpush) (Heap.get?_push_size h3 rfl) hbs).here ?_)
    have J4 : Inv X pins σ' H' { s' with heap := h3.push tpo } := J3.kept kpush
    have fl4 := flyZ_keep fl3 kpush
    have up4 : s'.heap.UpToSlots (h3.push tpo) := fun b o e nf => by
      obtain ⟨sl, q⟩ := up3 b o e nf
      exact ⟨sl, kpush _ _ q⟩
    cases hany : bs.any id with
    | true =>
      refine codeAny_handlers_suite_as (HandSPX.lands_againZ fl4 fun h5 fl5 up5 => ?_)
      have J5 : Inv X pins σ' H' { s' with heap := h5 } := J.landed nb fl5.1 ((up.trans up4).trans up5) os ag
      obtain ⟨oe5, vs5, he5, hz5, hd5⟩ := fl5.there
      have S5 := J5.suite he5 hd5 na nL nF
      have hloc : Loc X.env.scope n := Or.inl hln
      refine store_ok (X := X.suite a ((a, oe5) :: (X.pn ++ pins))) (v := .ref a) S5 nd hi hloc rfl (fun s6 S6 => ?_) (Or.inr hln)
      have asg : PSs (X.suite a ((a, oe5) :: (X.pn ++ pins))) [.Assign [.Name c cp] (.Name n np) apos] _ := pss_one (ps_set (i := j) nd hj (Or.inl hlc) (pe_var (i := i) hi (.inl hln) hdn hcn) (hf := Or.inr hlc))
      refine wpAny_mono (asg.run [] s6 _ H' { nx := fun σ6 H6 => σ6 = (σ'.set i (some (.ref a))).set j (some (.ref a)) ∧ H6 = H', rt := fun _ _ => False } S6 ?_) (fun f s7 hsp => ?_) (fun _ _ z => False.elim z)
      · have hlen : i < σ'.length := by
          rw [J.len]
          exact (List.getElem?_eq_some_iff.mp hi).1
        exact ⟨.ref a, by rw [List.getElem?_set_self hlen], rfl, rfl⟩
      cases f with
      | next =>
        obtain ⟨σ7, H7, S7, e7, e8⟩ := hsp
        subst e7 e8
        have pin7 := (S7.pin (a, oe5) (List.mem_append_left _ List.mem_cons_self)).1
        have J7 := S7.unsuite ok
        have hcell : ∀ x c, X.env.cells.lookup x = some c → c ≠ a := fun x c e z => by
          obtain ⟨v, o, ho, hd⟩ := J7.cell x c e
          rw [z, pin7] at ho
          cases ho
          rw [hd5] at hd
          cases hd
        have J8 := inv_adopt (u := exT a cls d) J7 na h0 nL hcell hpn (exT_ok pin7 hz5 hd5)
        exact gone_ok J8 nd hi hln fun s8 J9 => ⟨_, _, J9, yes hany J.len a na⟩
      | brk =>
        obtain ⟨_, _, _, q⟩ := hsp
        exact (show False from q).elim
      | cont =>
        obtain ⟨_, _, _, q⟩ := hsp
        exact (show False from q).elim
      | ret u =>
        obtain ⟨_, _, _, _, _, q⟩ := hsp
        exact (show False from q).elim
    | false =>
      show wpAny _ X.A (handleBy (.ref a) X.env []) _ _ _
      refine wpAny_handleBy_nil ?_
      obtain ⟨k1, k2, k3, oe, vs, T, oT, ts', he, hz, hd, h1, hr⟩ := id fl4
      unfold PySem.passOn
      refine wpAny_bind (wpAny_field he hd h1 ?_)
      rw [if_neg (show ¬ ((Value.ref T == Value.none) = true) from by simp)]
      have away : wpAny (model X.prog X.w) X.A (setFlight (.ref a) X.env.frame) (fun _ s4 => wpAny (model X.prog X.w) X.A (throw (.ref a) : Sem Flow) (SP X pins D) X.xe s4) X.xe
          { s' with heap := h3.push tpo } := by
        rw [frm]
        refine HandSPX.setFlight_upZ fl4 fun h5 hh5 up5 => wpAny_throw (out _ _ ?_)
        exact ⟨a, B, sI, pins, σ', H', cls, d, rfl, J, nb, (up.trans up4).trans up5, .inr (.inr (by rw [stk]; exact hh5)), na, os, ag, no hany⟩
      first
        | exact wpAny_bind (wpAny_pure (wpAny_bind away))
        | exact wpAny_bind away
  refine wpAny_mono (inBody.run [] s σ H D (I.toTry _) want) (fun f s1 hsp => ?_) (fun e s1 he => he)
  cases f with
  | next => exact wpAny_execs_nil (hsp.imp fun _ ⟨H', J', q⟩ => ⟨H', J'.ofTry ok, q⟩)
  | brk => exact hsp.imp fun _ ⟨H', J', q⟩ => ⟨H', J'.ofTry ok, q⟩
  | cont => exact hsp.imp fun _ ⟨H', J', q⟩ => ⟨H', J'.ofTry ok, q⟩
  | ret u => exact hsp.imp fun _ ⟨σ', H', J', r, q⟩ => ⟨σ', H', J'.ofTry ok, r, q⟩
end
end My

/-! isinstance and the fields of an exception that stands as a value. -/
namespace My
open PySem PySem.Spec PyProof.Rows L2
open PySem.W in
theorem find_cls {K : Frag} {C : Addr} {od : Option Obj} {a g : Value} (hc : (clsIn K C).isSome = true) (ha : findIn K (.ref C) "__class__" = some (some a)) (hg : specialIn K a "__get__" = some (some g)) (ht : takesIn K a = some true) :
    findObj K C od "__class__" = some (.bind g a) := by
  obtain ⟨cd, hcd⟩ := Option.isSome_iff_exists.mp hc
  unfold findObj
  rw [hcd, Option.bind_some, ha, Option.bind_some]
  simp [hg, ht]
section
open PySem.W PySem.Calls
variable {prog : Program} {w : World} {A : Around} {E : Value → Shared → Prop} {s : Shared} {K : Frag} {x D : Addr} {ox : Obj} {od : Option Obj}
/-- e.__class__ of an exception with a dict of its own -/
theorem cls_attr {Q : Option Value → Shared → Prop} (C : ExcC K D) (X : K.In s.heap) (I : InstAt s.heap x ox D od) (h : Q (some (.ref D)) { s with toks := s.toks + 1 }) : wpAny (model prog w) A (getAttr? (.ref x) "__class__") Q E s := by
  have hf : findObj K D od "__class__" = some (.bind (.builtin "getset_descriptor.__get__") (.builtin "object.__class__")) := find_cls (by obtain ⟨cd, hc, _⟩ := any_some C.hd; rw [hc]; rfl) C.ha C.hn C.ht
  obtain ⟨hp, gs, dr, tk, os⟩ := s
  have l0 := I.type (M := model prog w)
  have l1 := looks_findIn (M := model prog w) X C.hg
  have l2 := looks_findIn (M := model prog w) X C.hk
  have l3 := looks_find (M := model prog w) X I hf
  have isB : Looks (model prog w) hp (isInstance (.ref x) (.type "BaseException")) true := l0.andThen (looks_subIn X C.hs)
  have notO : (Value.builtin "BaseException.__getattribute__" == Value.builtin "object.__getattribute__") = false := by decide +kernel
  unfold getAttr? getAttrBy? getAttrBy
  refine wpAny_bind (wpAny_mkText (wpAny_bind (wpAny_attempt (wpAny_holding (wpAny_bind (l0.at (wpAny_bind (l1.at ?_))))))))
  show wpAny _ _ (if (onTheHeap (Value.ref D) && Value.builtin "BaseException.__getattribute__" == Value.builtin "object.__getattribute__") = true then _ else _) _ _ _
  rw [show (onTheHeap (Value.ref D) && Value.builtin "BaseException.__getattribute__" == Value.builtin "object.__getattribute__") = false by rw [notO]; rfl, if_neg Bool.false_ne_true]
  unfold getAttrByItsOwn hookBefore
  refine wpAny_bind ?_
  rw [if_pos (show onTheHeap (Value.ref D) = true from rfl)]
  refine l2.at (wpAny_bind (wpAny_attempt (wpAny_holding ?_)))
  unfold callGetattribute
  rw [show (false && onTheHeap (Value.builtin "BaseException.__getattribute__")) = false from rfl, if_neg Bool.false_ne_true]
  unfold boundAndCalled
  rw [PySem.F.excAttr_ValueError.ga.bind (.ref x)]
  refine wpAny_bind (wpAny_pure ?_)
  show wpAny _ _ (call (.builtin "BaseException.__getattribute__") [.ref x, .str "__class__" tk]) _ _ _
  refine wpAny_call (codeAny_call_builtin PySem.F.excAttr_ValueError.ga.plain PySem.F.entry_bexc_ga ?_)
  refine @check_slot (model prog w) _ _ ⟨hp, gs, dr, tk + 1, os⟩ "BaseException.__getattribute__" "BaseException" "__getattribute__" (.ref x) [.str "__class__" tk] [] _ (by decide +kernel) (by decide +kernel) isB (PySem.F.args_bexc_ga (.ref x) (.str "__class__" tk)) ?_
  unfold Builtin.«object.__getattribute__»
  refine wpAny_bind (wpAny_of_eq (a := ((Value.ref x : Value), [Value.str "__class__" tk])) (by first | rfl | (simp only [slotArgs]; rfl)) ?_)
  refine wpAny_bind (wpAny_pure (wpAny_bind (l0.at (wpAny_bind (l3.at ?_)))))
  show wpAny _ _ (holding [Value.builtin "object.__class__"] (call (.builtin "getset_descriptor.__get__") [.builtin "object.__class__", .ref x, .ref D]) >>= ret) _ _ _
  refine wpAny_bind (wpAny_holding (wpAny_call (class_get (s := ⟨hp, gs, dr, tk + 1, os⟩) (ox := ox) (od := od) X I C.hm ?_)))
  refine wpAny_pure ?_
  show wpAny _ _ (handedOut (.ref D)) _ _ _
  rw [handedOut_of (v := .ref D) rfl]
  first
    | exact wpAny_pure (wpAny_pure h)
    | exact wpAny_pure h
    | exact wpAny_pure (wpAny_bind (wpAny_pure (wpAny_pure h)))
theorem kitx_exT (C : ExcC K D) : KitX K (.ref x) (.ref D) (fun h => ∃ (ox : Obj) (od : Option Obj), InstAt h x ox D od) where
  ty := fun _ _ _ ⟨_, _, I⟩ => I.type
  it := fun _ _ X _ => by
    obtain ⟨cd, hc, _⟩ := any_some C.hd
    unfold clsIn at hc
    split at hc
    · rename_i ho
      intro A' Q' E' s' k q
      unfold isType loadHead
      exact wpAny_bind (wpAny_loadPart (k _ _ (X _ _ ho)) (wpAny_pure q))
    · cases hc
  ne := fun h tp dd its n sl X htp => by
    obtain ⟨cd, hc, _⟩ := any_some C.hd
    refine Bool.eq_false_iff.mpr fun q => ?_
    have e : D = tp := Value.ref.inj (beq_iff_eq.mp q)
    subst e
    unfold clsIn at hc
    split at hc
    · rename_i ho
      have z := (X _ _ ho).symm.trans htp
      cases z
    · cases hc
  ca := fun X ⟨_, _, I⟩ k => cls_attr C X I k
end
/-- an exception of the class at D, its dict at dd -/
def Exc (H : Hp) (a D : Addr) (d : Option Addr) : Prop := H a = some (exT a (.ref D) d)
theorem inst_exT {X : Cx} {pins : List (Addr × Obj)} {σ : L2.St} {H : Hp} {s : Shared} {a D : Addr} {d : Option Addr} (I : Inv X pins σ H s) (h : Exc H a D d) (hd : ∀ dd, d = some dd → ∃ fs, H dd = some (.xd fs)) :
    ∃ ox od, PySem.W.InstAt s.heap a ox D od := by
  obtain ⟨oe, vs, he, hz, hv⟩ := exT_at I.hok h
  obtain ⟨z1, z2⟩ := hz
  cases d with
  | none =>
    refine ⟨oe, none, ?_⟩
    obtain ⟨oc, odd, oda, osl⟩ := oe
    dsimp only at z1 z2 hv
    subst z1 z2 hv
    exact ⟨he, rfl, rfl, trivial⟩
  | some dd =>
    obtain ⟨fs, hfs⟩ := hd dd rfl
    obtain ⟨mA, hns, hr⟩ := (I.hok dd _ hfs : ObjOk X.prog X.w H s.heap dd (.xd fs))
    obtain ⟨od, ho, _⟩ := lookIn_ns hns
    refine ⟨oe, some od, he, z1, ?_, ?_⟩
    · unfold PySem.W.notCls
      rw [hv] <;> rfl
    · rw [z2]
      exact ho
def rIsT (K : PySem.W.Frag) : List V → Hp → VK → Prop := fun xs H Q => ∃ (a D : Addr) (d : Option Addr) (c : V) (cv : Value) (b : Bool), xs = [.ref a, c] ∧ Exc H a D d ∧ (∀ dd, d = some dd → ∃ fs, H dd = some (.xd fs)) ∧ ExcC K D ∧ (∀ u, RelV c u → u = cv) ∧
  PySem.W.kitOne K (.ref D) cv = some b ∧ Q (.bl b) H
theorem call_isT {X : Cx} : CallR X (.builtin "isinstance") (rIsT X.K) := by
  intro pins s σ H xs us Q I r h
  obtain ⟨a, D, d, c, cv, b, rfl, he, hd, C, hcv, e, q⟩ := h
  cases r with
  | cons rx rr =>
    cases rr with
    | cons rt rr =>
      cases rr
      cases rx
      have ec := hcv _ rt
      subst ec
      exact PySem.W.kia_one (kitx_exT C) I.kIn (inst_exT I he hd) e (fun z => nomatch z) fun tk => ⟨.bl b, H, I.kept (t' := tk) fun _ _ z => z, rfl, q⟩
def tXfT (K : PySem.W.Frag) (f : Str) (te : TE) : TE := fun σ H Q => te σ H fun x H1 => ∃ (a D dd : Addr) (fs : List (Str × V)) (v : V), x = .ref a ∧ Exc H1 a D (some dd) ∧ H1 dd = some (.xd fs) ∧ XfC K D ∧ PySem.W.findIn K (.ref D) f = some none ∧ fs.lookup f = some v ∧ Q v H1
theorem pe_xfT {X : Cx} {e : Expr} {te : TE} {pos : Pos} {n : Str} (he : PE X e te) (hb : attributeBase e n X.env (eval e X.env) = eval e X.env := by rfl) : PE X (.Attribute e n pos) (tXfT X.K n te) := by
  refine ⟨fun pins s σ H Q I h => ?_⟩
  refine attr_of hb (thn (he.run pins s σ H _ I h) fun u s1 hh => ?_)
  obtain ⟨x, H1, I1, rx, a, D, dd, fs, v, ex, hexc, ea, T, hno, l, q⟩ := hh
  subst ex
  obtain rfl : u = Value.ref a := rx
  obtain ⟨oe, vs, ha, hz, hd⟩ := exT_at I1.hok hexc
  obtain ⟨mA, hns, hr⟩ := (I1.hok dd _ ea : ObjOk X.prog X.w H1 s1.heap dd (.xd fs))
  obtain ⟨od, ho, hl⟩ := lookIn_ns hns
  obtain ⟨u, hu, ru⟩ := RelO.some_of (v := v) (o := mA n) (by rw [← l]; exact hr n)
  have J : PySem.W.InstAt s1.heap a oe D (some od) := ⟨ha, hz.1, by unfold PySem.W.notCls; rw [hd] <;> rfl, by rw [hz.2]; exact ho⟩
  exact HandSPX.exc_get I1.kIn J T.ga T.gg T.exC (PySem.W.findObj_own T.hdC hno rfl (by rw [hl, hu])) (handed_of ru) ⟨v, H1, I1.tok _, ru, q⟩
end My

set_option maxHeartbeats 4000000
/-! an own error over OverflowError whose __init__ stores one field -/
namespace My
open PySem PySem.Spec PyProof.Rows L2
def oeTail : List Value := [.type "OverflowError", .type "ArithmeticError", .type "Exception", .type "BaseException", .type "object"]
/-- what is asked of the class -/
structure TgC (K : PySem.W.Frag) (C : Addr) : Prop where
  look : ∃ nm q N bs sn sub ab col dd k0 k1 k2 k3 k5, K.lookup C =
    some (excClassObj nm q C N bs oeTail true sn sub ab col dd k0 k1 k2 k3 k5 "OverflowError.__new__")
  setter : PySem.W.findIn K (.ref C) "__setattr__" = some (some (.builtin "object.__setattr__"))
  base : PySem.W.subIn K (.ref C) (.type "BaseException") = some true
  ofType : PySem.W.typeIn K (.ref C) = some (.type "type")
  keep : PySem.W.keepIn K (.ref C) = true
section
open PySem.W PySem.Calls PySem.HandSPX Builtin Builtin.ObjectAttr
variable {prog : Program} {w : World} {A : Around} {R : Result → Shared → Prop} {hp : Heap} {g : Array GenState} {d : Drawn} {t : Nat} {os : OsState}
theorem put_field {K : W.Frag} {name : Str} {tk : Tok} {v : Value} {x C : Addr} {fv : Array Value} {cd : ClassData}
    (inK : K.In hp) (atX : hp.get? x = some { cls := .ref C, data := .fields fv }) (ofC : W.clsIn K C = some cd) (order : cd.mro = .ref C :: oeTail)
    (dict : cd.hasDict = true) (free : W.findIn K (.ref C) name = some none)
    (go : ∀ h2 tk2 dx, (∀ b o, b ≠ x → hp.get? b = some o → h2.get? b = some o) → hp.objs.size ≤ dx → dx ≠ x →
      h2.get? x = some { cls := .ref C, dict := some dx, data := .fields fv } → h2.Ns1 dx (fun y => if y = name then some v else none) →
      R (.ok (.ret .none)) ⟨h2, g, d, tk2, os⟩) :
    codeAny (model prog w) A (.call (.builtin "object.__setattr__") ⟨[.ref x, .str name tk, v], []⟩) R ⟨hp, g, d, t, os⟩ := by
  have inst : W.InstAt hp x { cls := .ref C, data := .fields fv } C none := ⟨atX, rfl, rfl, trivial⟩
  have facts := F.store_object
  have some' : cd.mro.isEmpty = false := by rw [order]; rfl
  have isObj : cd.mro.contains (.type "object") = true := by
    rw [order, List.contains_cons, show oeTail.contains (.type "object") = true by decide +kernel, Bool.or_true]
  have apart : x ≠ hp.objs.size := Nat.ne_of_lt (Heap.lt_size atX)
  have inside : W.mroIn K C (.type "object") = some true := by
    unfold W.mroIn
    rw [ofC, Option.bind_some, if_neg (by rw [some']; decide), isObj]
  have sub : W.Looks (model prog w) hp (isInstance (.ref x) (.type "object")) true := inst.type.andThen (W.looks_mroIn inK inside)
  refine codeAny_call_builtin facts.slot.plain facts.entry ?_
  refine @W.check_slot (model prog w) _ _ ⟨hp, g, d, t, os⟩ "object.__setattr__" "object" "__setattr__" (.ref x)
    [.str name tk, v] [] _ facts.kind facts.split sub (facts.args (.ref x) (.str name tk) v) ?_
  have lookOrder : W.Looks (model prog w) hp (mroOf (.ref C)) cd.mro := (W.looks_clsIn inK ofC).andThen .now
  have noTaker : W.Looks (model prog w) hp (storeTaker? none) none := .now
  have lookCls : W.Looks (model prog w) hp (classData C) cd := W.looks_clsIn inK ofC
  rw [W.osa_eq, refuse_eq]
  refine wpAny_bind (wpAny_bind ?_)
  refine inst.type.at (wpAny_bind (lookOrder.at ?_))
  rw [order, refuseLoop_ref, show refuseLoop (.ref x) "__setattr__" oeTail = pure () from F.store_OverflowError.passes _]
  refine wpAny_pure (wpAny_bind ?_)
  refine inst.type.at (wpAny_bind ((W.looks_findIn inK free).at (wpAny_bind (noTaker.at ?_))))
  show wpAny _ _ (storeInOwnDict (.ref x) (.ref C) (.str name tk) name v false) _ _ _
  obtain ⟨c1, c2, c3, c4, c5, c6, c7, c8, c9, c10, c11⟩ := cd
  dsimp only at dict
  subst dict
  unfold storeInOwnDict ownDictForStores
  repeat (first
    | with_reducible refine store_in_new ?_ ?_
    | with_reducible refine wpAny_loadPart_at atX ?_
    | with_reducible refine lookCls.at ?_
    | wp_step)
  · exact ⟨_, #[], _, (Heap.get?_update_ne _ _ _ _ apart.symm).trans (Heap.get?_push_at rfl rfl),
      rfl, fun e he => absurd he (by simp), fun _ => rfl⟩
  · intro h2 tk2 names same
    have stays : (hp.push { cls := .type "dict", data := .dict #[] }).get? x = some { cls := .ref C, data := .fields fv } := Heap.get?_push_of_some _ atX
    refine go h2 tk2 hp.objs.size (fun b o ne ho => ?_) (Nat.le_refl _) apart.symm ?_ names
    · refine (same.2 b (Nat.ne_of_lt (Heap.lt_size ho))).trans ?_
      exact (Heap.get?_update_ne _ _ _ _ ne).trans (Heap.get?_push_of_some _ ho)
    · exact (same.2 x apart).trans (Heap.get?_update_self _ stays rfl)
end
section
variable {X : Cx} {pins : List (Addr × Obj)} {σ : L2.St} {H : Hp} {s : Shared} {a C dx : Addr} {f : Str} {y : V} {u : Value} {Q : Unit → Shared → Prop} {E : Value → Shared → Prop} {A : Around}
theorem put_first (T : TgC X.K C) (I : Inv X pins σ H s) (e : H a = some (exo a C none)) (free : PySem.W.findIn X.K (.ref C) f = some none) (ry : RelV y u)
    (go : ∀ dx s2, H dx = none → dx ≠ a → Inv X pins σ (upd (upd H dx (exd dx [(f, y)])) a (exo a C (some dx))) s2 → Q () s2) :
    wpAny (model X.prog X.w) A (setAttr (.ref a) f u) Q E s := by
  obtain ⟨nm, q, N, bs, sn, sub, ab, col, dd, k0, k1, k2, k3, k5, hC⟩ := T.look
  have ofC : PySem.W.clsIn X.K C = some {
      name := nm
      bases := bs
      mro := .ref C :: oeTail
      ns := N
      qualname := q
      hasDict := true
      slotNames := sn
      subclasses := sub
      abstract := ab
      collection := col
      hasDel := false } := by
    unfold PySem.W.clsIn
    rw [hC] <;> rfl
  obtain ⟨t1, ho⟩ := exo_at I.hok e
  obtain ⟨hp, g, d, t, os⟩ := s
  refine PySem.W.set_plain I.kIn (ox := { cls := .ref C, dict := none, data := .fields #[.ref t1, .none, .none, .none, .bool false, .none] }) (od := none)
    ⟨ho, rfl, rfl, trivial⟩ T.setter ?_
  refine put_field I.kIn ho ofC rfl rfl free fun h2 tk2 dx k dn dne hx hn => ?_
  have newDx : H dx = none := I.hok.fresh dn
  have notDx : ∀ {b : Addr} {o : Obj}, hp.get? b = some o → b ≠ dx := fun {b o} z => Nat.ne_of_lt (Nat.lt_of_lt_of_le (Heap.lt_size z) dn)
  have notA : ∀ {b : Addr}, H b = none → b ≠ a := fun {b} n z => by
    rw [z, e] at n
    cases n
  have step : Un X.fs [] H (upd (upd H dx (exd dx [(f, y)])) a (exo a C (some dx))) hp h2 := by
    refine {
      keep := fun b o z n _ _ => k b o (notA n) z
      slot := fun b o z n _ _ => ⟨_, k b o (notA n) z⟩
      free := fun b o z n _ => ?_
      there := fun b o z _ => ?_
      tups := fun b xs z => ?_
      frzs := fun b o v z => ?_
      tbls := fun b ps z => ⟨#[], ?_⟩ }
    · rw [upd_ne (notA n), upd_ne (notDx z)]
      exact n
    · by_cases hb : b = a
      · exact ⟨_, by rw [hb]; exact hx⟩
      · exact ⟨o, k b o hb z⟩
    · rw [upd_ne (at_ne e z exo_tup), upd_ne (ne_of_none z newDx)]
      exact z
    · rw [upd_ne (at_ne e z exo_frz), upd_ne (ne_of_none z newDx)]
      exact z
    · rw [upd_ne (at_ne e z exo_tbl), upd_ne (ne_of_none z newDx), z]
      simp
  refine go dx _ newDx dne (I.un (t' := tk2) step fun b o z => ?_)
  by_cases hb : b = a
  · subst hb
    rw [upd_same] at z
    cases z
    exact exo_ok hx
  rw [upd_ne hb] at z
  by_cases hd : b = dx
  · subst hd
    rw [upd_same] at z
    cases z
    exact exd_ok hn (relO_put (fs := []) ry fun _ => True.intro)
  rw [upd_ne hd] at z
  refine (I.hok b o z).stay (fun c v hc r => k c v ?_ r) (fun c hc => ?_) (fun c xs hc => ?_)
  · rcases hc with hc | hc
    · rw [hc]
      exact hb
    · exact at_ne e hc exo_own
  · rw [upd_ne (at_ne e hc exo_own), upd_ne (ne_of_none hc newDx)]
    exact hc
  · rw [upd_ne (at_ne e hc exo_tup), upd_ne (ne_of_none hc newDx)]
    exact hc
end
/-- self.f = e, in the __init__ of such a class -/
def tPut (K : PySem.W.Frag) (f : Str) (to te : TE) : L2.TS := fun D σ H => te σ H fun y H1 => to σ H1 fun x H2 => ∃ a C : Addr, x = .ref a ∧ TgC K C ∧
  PySem.W.findIn K (.ref C) f = some none ∧ H2 a = some (exo a C none) ∧
  ∀ dx, H2 dx = none → dx ≠ a → D.nx σ (upd (upd H2 dx (exd dx [(f, y)])) a (exo a C (some dx)))
section
variable {X : Cx} {o e : Expr} {es : List Expr} {to te : TE} {ta : TA} {f : Str} {p p' pos : Pos}
theorem ps_put (ho : PE X o to) (he : PE X e te) (hs : swapsWith e (some (.Attribute o f p')) pos.line X.env = pure false := by rfl) :
    PS X (.Assign [.Attribute o f p'] e pos) (tPut X.K f to te) := by
  refine ⟨fun pins s σ H D I h => ?_⟩
  refine plainObj_wpAny_Assign_Attribute (thn (he.run pins s σ H _ I h) fun v s1 ⟨y, H1, I1, r1, q1⟩ => ?_) hs
  refine thn (ho.run pins s1 σ H1 _ I1 q1) fun u s2 ⟨x, H2, I2, r2, a, C, ex, T, free, ea, q⟩ => ?_
  subst ex
  obtain rfl : u = Value.ref a := r2
  exact put_first T I2 ea free r1 fun dx s3 n ne J => ⟨σ, _, J, q dx n ne⟩
theorem pmk_tg {CX : CXT} {x : Str} {C fI : Addr} {k : Nat} {fd : FuncData} {ps : List Str} {sp : Sp} {ds : List Value} {dvs : List V} (T : TgC X.K C)
    (iC : PySem.W.findIn X.K (.ref C) "__init__" = some (some (.ref fI))) (tI : PySem.W.typeIn X.K (.ref fI) = some (.type "function"))
    (F1 : FnOk X.prog X.w X.K X.mg X.base CX k fI fd ps sp) (hr : Room (k + 1) X.A) (hb : Binds X.K fd ps ds) (hd : Vals dvs ds)
    (hx : Passes CX X (fun _ _ _ => False)) (hg : Gl X x) (hm : X.mg x = some (.ref C)) (ha : PA X (e :: es) ta)
    (hdb : (x == ("__debug__" : Str)) = false := by decide) (he : starEach (e :: es) X.env = (false, eval e X.env) :: starEach es X.env := by rfl)
    (hpl : (backTo pos (starEach es X.env)).any (·.1) = false := by rfl) :
    PMk X (.Call (.Name x p) (e :: es) [] pos) (tMkO C sp dvs ta) := by
  intro pins s σ H Q I h
  obtain ⟨nm, q, N, bs, sn, sub, ab, col, dd, k0, k1, k2, k3, k5, hC⟩ := T.look
  refine wpAny_Call_Name_kw (ld_glob I hg hm ?_ hdb)
  refine PySem.W.callWith_K (h₀ := X.base) I.ok.mod.kin T.keep ?_ he hpl
  refine thn (ha.run pos pins s σ H _ I h) fun us s1 ⟨vs, H1, I1, r1, hz, q1⟩ => ⟨I1.kIn, ?_⟩
  show wpAny _ _ (call (.ref C) us) _ _ _
  obtain ⟨hp, g, dr, tk, os⟩ := s1
  have over : hp.objs.size ≤ hp.objs.size + 1 := Nat.le_succ _
  have new : H1 (hp.objs.size + 1) = none := I1.hok.fresh over
  have want := q1 (hp.objs.size + 1) new
  have stays : ∀ b o, hp.get? b = some o → ((hp.push (PySem.W.kdv_tup us)).push (PySem.HandSPX.excO C hp.objs.size)).get? b = some o := fun b o z =>
    Heap.get?_push_of_some _ (Heap.get?_push_of_some _ z)
  have made : ((hp.push (PySem.W.kdv_tup us)).push (PySem.HandSPX.excO C hp.objs.size)).get? (hp.objs.size + 1) = some (PySem.HandSPX.excO C hp.objs.size) := by
    heap_get
  have I2 := I1.laid (t' := tk) (a := hp.objs.size + 1) (o := exo (hp.objs.size + 1) C none)
    (h' := (hp.push (PySem.W.kdv_tup us)).push (PySem.HandSPX.excO C hp.objs.size)) stays over (exo_ok made)
  have r2 : Vals (V.ref (hp.objs.size + 1) :: (vs ++ dvs)) (Value.ref (hp.objs.size + 1) :: (us ++ ds)) := .cons rfl (r1.append hd)
  have lens : (Value.ref (hp.objs.size + 1) :: us ++ ds).length = ps.length := by
    have z := r2.length
    rw [F1.len _ _ _ _ want] at z
    exact z.symm
  have small : us.length ≤ sizeLine := by
    rw [← Paired.length r1, sizeLine_eq]
    omega
  refine wpAny_call (PySem.HandSPX.call_own F.excBase_OverflowError (fun _ => rfl) (I1.kIn _ _ hC) (PySem.W.looks_findIn I1.kIn iC)
    (fun self => PySem.W.bind_fn I1.kIn self tI) small ?_)
  refine codeAny_mono (F1.run _ X.stack _ _ ⟨Value.ref (hp.objs.size + 1) :: us, []⟩ (Value.ref (hp.objs.size + 1) :: (us ++ ds)) _ _ (fun _ _ _ => False)
    (hr.make C us []) (I2.env0.make C us []) (hb _ (Value.ref (hp.objs.size + 1) :: us) I2.kIn lens) r2 want) fun r s2 back => ?_
  match r, back with
  | .error er, back => exact hx pins σ _ _ er s2 I2 back
  | .ok (.ret u), back =>
    obtain ⟨v, H2, os2, bare2, un2, hok2, rv, ev, d, fs, ea, ed, hd1, q2⟩ := back
    subst ev
    obtain ⟨h2, g2, d2, t2, os'⟩ := s2
    exact ⟨rv, mk_end (raises_own T.base T.ofType) I1 over stays un2 hok2 os2 bare2 ea ed hd1 q2⟩
end
end My

set_option maxHeartbeats 4000000
/-! an own error over LookupError whose __init__ stores no field -/
namespace My
open PySem PySem.Spec PyProof.Rows L2
def leTail : List Value := [.type "LookupError", .type "Exception", .type "BaseException", .type "object"]
structure NthC (K : PySem.W.Frag) (C : Addr) : Prop where
  look : ∃ nm q N bs sn sub ab col dd k0 k1 k2 k3 k5, K.lookup C = some (excClassObj nm q C N bs leTail true sn sub ab col dd k0 k1 k2 k3 k5 "LookupError.__new__")
  sa : PySem.W.findIn K (.ref C) "__setattr__" = some (some (.builtin "object.__setattr__"))
  exC : PySem.W.subIn K (.ref C) (.type "BaseException") = some true
  tyC : PySem.W.typeIn K (.ref C) = some (.type "type")
  kC : PySem.W.keepIn K (.ref C) = true
section
variable {X : Cx} {pins : List (Addr × Obj)} {σ : L2.St} {H : Hp} {s : Shared} {a C dx : Addr} {A : Around} {E : Value → Shared → Prop}
theorem linit_ok {us : List Value} {Q : Value → Shared → Prop} (T : NthC X.K C) (I : Inv X pins σ H s) (e : H a = some (exo a C none)) (hl : us.length ≤ sizeLine) (h : ∀ s', Inv X pins σ H s' → Q .none s') :
    wpAny (model X.prog X.w) A (call (.builtin "LookupError.__init__") (.ref a :: us)) Q E s := by
  obtain ⟨nm, q, N, bs, sn, sub, ab, col, dd, k0, k1, k2, k3, k5, hC⟩ := T.look
  obtain ⟨t1, ho⟩ := exo_at I.hok e
  obtain ⟨hp, g, d, t, os⟩ := s
  refine wpAny_call (PySem.HandSPX.init_base F.excBase_LookupError (fun _ => rfl) (I.kIn _ _ hC) ho hl fun h' t2 k hx => ?_)
  have J := I.write (t' := t) (x := a) (e := a) (o := exo a C none) (by rw [e]; exact True.intro) (.inl rfl) k ⟨_, hx⟩ (exo_ok hx)
  have eu : upd H a (exo a C none) = H := by
    funext b
    by_cases hb : b = a
    · rw [hb, upd_same, e]
    · rw [upd_ne hb]
  rw [eu] at J
  exact h _ J
end
def tLeI (K : PySem.W.Frag) (ta : TA) : TE := fun σ H Q => ta σ H fun vs H1 => ∃ (a C : Addr) (ws : List V), vs = .ref a :: ws ∧ ws.length ≤ 1000 ∧ NthC K C ∧ H1 a = some (exo a C none) ∧ Q .non H1
section
variable {X : Cx} {e : Expr} {es : List Expr} {ta : TA} {p1 p2 pos : Pos}
theorem pe_leinit {pl : Sem Bool} (hg : Gl X "LookupError") (hm : X.mg "LookupError" = none) (vV : PySem.W.findCls X.K (.type "LookupError") (.type "type") "__init__" = some (.val (.builtin "LookupError.__init__"))) (ha : PA X (e :: es) ta)
    (hc : eval (.Call (.Attribute (.Name "LookupError" p1) "__init__" p2) (e :: es) [] pos) X.env = (do
      let ov ← eval (.Name "LookupError" p1) X.env
      standAt p2.atName
      let (f, first) ← holding [ov] (getMethod ov "__init__" pl)
      callWith pos f first (backTo pos (starEach (e :: es) X.env)) (backToKw pos (keywordEach [] X.env))) := by rfl)
    (he : starEach (e :: es) X.env = (false, eval e X.env) :: starEach es X.env := by rfl) (hpl : (backTo pos (starEach es X.env)).any (·.1) = false := by rfl) :
    PE X (.Call (.Attribute (.Name "LookupError" p1) "__init__" p2) (e :: es) [] pos) (tLeI X.K ta) := by
  refine ⟨fun pins s σ H Q I h => ?_⟩
  refine PySem.W.methodCall_KW (ld_blt I hg hm PyProof.Rows.Boot.«LookupError» ?_ (by decide) (by decide)) hc
  obtain ⟨m, fr⟩ := I.fr
  refine PySem.W.method_type fr I.ok.mod.kin (by kernel_rfl) (by decide +kernel) vV (by decide +kernel) ?_
  show wpAny _ _ (callWith pos (Value.builtin "LookupError.__init__") [] (backTo pos (starEach (e :: es) X.env)) []) _ _ _
  refine PyProof.Rows.callWith_method1 (thn (ha.run pos pins _ σ H _ (I.tok _) h) fun us s1 ⟨vs, H1, I1, r1, a, C, ws, ev, hl, T, ea, q⟩ => ?_) he hpl
  subst ev
  cases r1 with
  | @cons _ u0 _ ur ra rw' =>
    obtain rfl : u0 = Value.ref a := ra
    have hlen : ur.length ≤ sizeLine := by
      rw [← Paired.length rw', sizeLine_eq]
      omega
    exact linit_ok T I1 ea hlen fun s' J => ⟨.non, H1, J, rfl, q⟩
theorem pmkN {x : Str} {C fI : Addr} {k : Nat} {fd : FuncData} {ps : List Str} {sp : Sp} {p : Pos}
    (T : NthC X.K C) (iC : PySem.W.findIn X.K (.ref C) "__init__" = some (some (.ref fI))) (tI : PySem.W.typeIn X.K (.ref fI) = some (.type "function"))
    (F1 : FnOk X.prog X.w X.K X.mg X.base CX0 k fI fd ps sp) (hr : Room (k + 1) X.A) (hb : Binds X.K fd ps []) (hm : X.mg x = some (.ref C)) (ha : PA X (e :: es) ta) (hg : Gl X x := by rfl)
    (hdb : (x == ("__debug__" : Str)) = false := by decide) (he : starEach (e :: es) X.env = (false, eval e X.env) :: starEach es X.env := by rfl)
    (hpl : (backTo pos (starEach es X.env)).any (·.1) = false := by rfl) : PMk X (.Call (.Name x p) (e :: es) [] pos) (tMk0 C sp ta) := by
  intro pins s σ H Q I h
  obtain ⟨nm, q, N, bs, sn, sub, ab, col, dd, k0, k1, k2, k3, k5, hC⟩ := T.look
  refine wpAny_Call_Name_kw (ld_glob I hg hm ?_ hdb)
  refine PySem.W.callWith_K (h₀ := X.base) I.ok.mod.kin T.kC
    (thn (ha.run pos pins s σ H _ I h) fun us s1 ⟨vs, H1, I1, rel, few, want⟩ => ⟨I1.kIn, ?_⟩) he hpl
  show wpAny _ _ (call (.ref C) us) _ _ _
  obtain ⟨hp, g, dr, tk, os⟩ := s1
  have up : hp.objs.size ≤ hp.objs.size + 1 := Nat.le_succ _
  have goal1 := want (hp.objs.size + 1) (I1.hok.fresh up)
  have kept : ∀ b o, hp.get? b = some o → ((hp.push (PySem.W.kdv_tup us)).push (PySem.HandSPX.excO C hp.objs.size)).get? b = some o :=
    fun b o e => Heap.get?_push_of_some _ (Heap.get?_push_of_some _ e)
  have there : ((hp.push (PySem.W.kdv_tup us)).push (PySem.HandSPX.excO C hp.objs.size)).get? (hp.objs.size + 1) = some (PySem.HandSPX.excO C hp.objs.size) := by
    heap_get
  have I2 : Inv X pins σ (upd H1 (hp.objs.size + 1) (exo (hp.objs.size + 1) C none)) ⟨(hp.push (PySem.W.kdv_tup us)).push (PySem.HandSPX.excO C hp.objs.size), g, dr, tk, os⟩ :=
    I1.laid (t' := tk) (o := exo (hp.objs.size + 1) C none) kept up
      (exo_ok there)
  have rel2 : Vals (V.ref (hp.objs.size + 1) :: vs) (Value.ref (hp.objs.size + 1) :: us) := .cons rfl rel
  have len : (Value.ref (hp.objs.size + 1) :: us ++ []).length = ps.length := by
    have z := rel2.length
    rw [F1.len _ _ _ _ goal1] at z
    rw [List.append_nil]
    exact z.symm
  have small : us.length ≤ sizeLine := by
    rw [← Paired.length rel]
    exact Nat.le_trans few (by decide)
  have bind0 := hb _ (Value.ref (hp.objs.size + 1) :: us) I2.kIn len
  rw [List.append_nil] at bind0
  refine wpAny_call (PySem.HandSPX.call_own F.excBase_LookupError (fun _ => rfl) (I1.kIn _ _ hC)
    (PySem.W.looks_findIn I1.kIn iC) (fun self => PySem.W.bind_fn I1.kIn self tI) small
    (codeAny_mono (F1.run _ X.stack _ _ ⟨Value.ref (hp.objs.size + 1) :: us, []⟩ (Value.ref (hp.objs.size + 1) :: us) _ _ (fun _ _ _ => False) (hr.make C us []) (I2.env0.make C us []) bind0 rel2 goal1) ?_))
  intro r s' hq
  match r, hq with
  | .error er, hq => exact (show False from hq).elim
  | .ok (.ret u), hq =>
    obtain ⟨v, H2, os2, bare2, un2, ok2, rv, rfl, ea, q2⟩ := hq
    obtain ⟨h2, g2, d2, t2, os'⟩ := s'
    obtain ⟨t0, G, J, inG, gone, obj⟩ := end_nodict (d2 := d2) (t2 := t2) I1 up kept un2 ok2 os2 bare2 ea
    exact ⟨rv, hp.objs.size + 1, _, _, ⟨G, g2, d2, t2, os'⟩, _, .ref C, none, rfl, J, inG, gone, obj, ⟨rfl, rfl⟩, rfl, rfl, del_same, rfl, bare2, raises_own T.exC T.tyC, q2⟩
end
end My

/-! The end of a law that makes lambdas, whose promise is asked where no guard stands: its code object's table of code objects grows. -/
namespace My
open PySem PySem.Spec PyProof.Rows L2 LamX
/-- nothing stands but the script and the table at P -/
def OnlyT (P : Addr) (H : Hp) : Prop := ∀ b, H b = none ∨ b = P ∨ ∃ o xs, H b = some (.frz o (.lst xs))
abbrev tabO (ps : Array Value) : Obj := { cls := .none, data := .fields ps }
theorem law_callGT {Pr : Program} {w : World} {K : PySem.W.Frag} {mg mb : Str → Option Value} {k : Nat} {fa a c P : Addr} {fd : FuncData} {x : Str} {sp : Sp} {s₁ : Shared} {vs : List Value} {ns : List Int}
    (inK : K.In s₁.heap) (glob : s₁.heap.Ns mainGlobals mg) (blt : s₁.heap.Ns builtinsNs mb) (boot : ∀ x : Str, x ≠ "__name__" → mb x = bootBuiltins x) (nolim : s₁.heap.NoLimit) (nogen : s₁.gens = #[])
    (hT : s₁.heap.get? P = some (tabO #[])) (nT : K.lookup P = none) (C : PySem.W.CodeHd s₁.heap c P)
    (hbm : ∃ (bm : Addr) (ob : Obj), mg "__builtins__" = some (.ref bm) ∧ bm ≠ builtinsNs ∧ s₁.heap.get? bm = some ob ∧ ob.cls = .type "module" ∧ ob.dict = some builtinsNs ∧ ob.data = .plain)
    (hobj : s₁.heap.get? a = some { cls := .type "list", data := .seq vs.toArray }) (hints : IntsAre vs ns) (hlen : ns.length ≤ sizeLine) (room : Room k callerA)
    (F : ∀ base : Heap, K.In base → base.Ns mainGlobals mg → TabB base mg c P → FnG Pr w K mg base k fa fd [x] sp) (binds : ∀ (s : Shared) (u : Value), BindsTo s fd ⟨[u], []⟩ [(x, u)])
    (want : ∀ H : Hp, H P = some (.tbl #[]) → SqL K H a (ns.map V.int) → sp [.ref a] H (fun v _ => v = .bl true) fun _ _ _ => False) :
    codeAny (model Pr w) callerA (.call (.ref fa) ⟨[.ref a], []⟩) (fun r s' => r = .ok (.ret (.bool true)) ∧ OldK s₁.heap s'.heap ∧ s'.os = s₁.os ∧ AllBare s'.gens) s₁ := by
  have relv := vals_ints hints
  have naP : a ≠ P := fun z => by
    rw [z, hT] at hobj
    have z' : Data.fields #[] = Data.seq vs.toArray _ := congrArg Obj.data (Option.some.inj hobj)
    cases z'
  have core : ∀ H : Hp, H P = some (.tbl #[]) → OnlyT P H → SqL K H a (ns.map V.int) → HOk Pr w H s₁.heap → (∀ b, H b ≠ none → b = a ∨ b = P) → (H a ≠ none → K.lookup a = none) →
      codeAny (model Pr w) callerA (.call (.ref fa) ⟨[.ref a], []⟩) (fun r s' => r = .ok (.ret (.bool true)) ∧ OldK s₁.heap s'.heap ∧ s'.os = s₁.os ∧ AllBare s'.gens) s₁ := by
    intro H hP only seq ok one notK
    have up : ∀ {b : Addr} {o : Obj}, s₁.heap.get? b = some o → H b = none → (hidT s₁.heap H).get? b = some o := fun e n => hidT_get e n
    -- what is neither a list nor a table is not tracked
    have out : ∀ {b : Addr} {o : Obj}, s₁.heap.get? b = some o → (∀ vs n, o.data ≠ .seq vs n) → o.data ≠ .fields #[] → H b = none := by
      intro b o e h1 h2
      cases q : H b with
      | none => rfl
      | some u =>
        rcases one b (fun z => by rw [q] at z; cases z) with z | z
        · rw [z, hobj] at e
          cases e
          exact (h1 _ _ rfl).elim
        · rw [z, hT] at e
          cases e
          exact (h2 rfl).elim
    have outD : ∀ {b : Addr} {o : Obj} {es : Array DictEntry} {ep : Nat}, s₁.heap.get? b = some o → o.data = .dict es ep → H b = none := fun {b o es ep} e d =>
      out e (fun vs n z => by rw [d] at z; cases z) (fun z => by rw [d] at z; cases z)
    have nsUp : ∀ {b : Addr} {m : Str → Option Value}, s₁.heap.Ns b m → (hidT s₁.heap H).Ns b m :=
      fun {_ _} ⟨o, es, ep, e, d, r⟩ => ⟨o, es, ep, up e (outD e d), d, r⟩
    have kUp : K.In (hidT s₁.heap H) := by
      intro b o e
      refine up (inK b o e) ?_
      cases q : H b with
      | none => rfl
      | some u =>
        rcases one b (fun z => by rw [q] at z; cases z) with z | z
        · rw [z, notK (fun y => by rw [← z, q] at y; cases y)] at e
          cases e
        · rw [z, nT] at e
          cases e
    have mod : Mod K mg (hidT s₁.heap H) := ⟨kUp, nsUp glob, ⟨mb, nsUp blt, boot⟩, nolim.imp fun mc z => ⟨nsUp z.1, z.2⟩⟩
    have tb : TabB (hidT s₁.heap H) mg c P := by
      refine ⟨?_, ?_, fun z => ?_⟩
      · obtain ⟨o, us, file, tf, flags, tg, inF, text, tt, e1, r1, r2, r3, r⟩ := C
        refine ⟨o, us, file, tf, flags, tg, inF, text, tt, up e1 (out e1 (fun vs n z => ?_) fun z => ?_), r1, r2, r3, r⟩
        · rw [r2] at z
          cases z
        · rw [r2] at z
          cases z
          simp at r3
      · obtain ⟨bm, ob, b1, b2, b3, b4, b5, b6⟩ := hbm
        have nG : bm ≠ mainGlobals := fun q => by
          obtain ⟨o, es, ep, e, hd, _⟩ := glob
          rw [q, e] at b3
          cases b3
          rw [hd] at b6
          cases b6
        have nP : bm ≠ P := fun q => by
          rw [q, hT] at b3
          cases b3
          cases b6
        exact ⟨bm, ob, b1, b2, nG, nP, up b3 (out b3 (fun vs n z => by rw [b6] at z; cases z) fun z => by rw [b6] at z; cases z), b4, b5, b6⟩
      · obtain ⟨o, es, ep, e, hd, _⟩ := glob
        rw [z, hT] at e
        cases e
        cases hd
    have env0 : Env0 Pr w K mg (hidT s₁.heap H) callerA [] s₁ H :=
      ⟨rfl, mod, fun b o e => of_hidT e, Nat.le_of_eq (hidT_size _ _), trivial, fun b hb => absurd (show b ∈ ([] : List Addr) from hb) (by simp), ok, .of_eq nogen⟩
    have call := (F _ kUp (nsUp glob) tb).go callerA [] s₁ H ⟨[.ref a], []⟩ [.ref a] [.ref a] _ _ rfl room env0 (binds s₁ (.ref a)) (.cons rfl .nil) (want H hP seq)
    refine codeAny_mono call fun r s' h => ?_
    match r, h with
    | .error e, h => exact (show False from h).elim
    | .ok (.ret u), h =>
      obtain ⟨v, H', os, bare, un, ok', rv, q⟩ := h
      obtain rfl : v = .bl true := q
      obtain rfl : u = Value.bool true := rv
      have stays : ∀ b o, b ≠ P → s₁.heap.get? b = some o → s'.heap.get? b = some o := fun b o nb e => by
        rcases only b with z | z | ⟨ob, xs, z⟩
        · exact un.keep b o e z (fun y => absurd (show b ∈ ([] : List Addr) from y) (by simp)) (by simp)
        · exact absurd z nb
        · obtain ⟨e1, _⟩ := ok b _ z
          obtain ⟨e2, _⟩ := ok' b _ (un.frzs b ob _ z)
          rw [e] at e1
          cases e1
          exact e2
      obtain ⟨more, hm⟩ : ∃ more : Array Value, s'.heap.get? P = some (tabO more) := by
        obtain ⟨more, z⟩ := un.tbls P #[] hP
        exact ⟨_, ok' P _ z⟩
      refine ⟨rfl, ⟨fun b o e => ?_, fun b o e => ?_⟩, os, bare⟩
      · by_cases hb : b = P
        · rw [hb] at e ⊢
          rw [hT] at e
          cases e
          exact .inr (.inl ⟨(C.tab hT).isCodeTable, rfl, #[], more, rfl, by rw [Array.empty_append]; exact hm⟩)
        · exact .inl (stays b o hb e)
      · by_cases hb : b = P
        · rw [hb]
          exact ⟨_, hm⟩
        · exact ⟨o, stays b o hb e⟩
  let t0 : Hp := fun b => if b = P then some (.tbl #[]) else none
  have t0P : t0 P = some (.tbl #[]) := if_pos rfl
  have t0o : ∀ {b}, b ≠ P → t0 b = none := fun h => if_neg h
  cases hk : K.lookup a with
  | some o =>
    have e := inK a o hk
    rw [hobj] at e
    cases e
    have stands : SqL K t0 a (ns.map V.int) := .inr ⟨_, vs.toArray, _, hk, rfl, rfl, rfl, by rw [List.size_toArray, hints.length]; exact hlen, by simpa using relv⟩
    refine core t0 t0P (fun b => ?_) stands (fun b u z => ?_) (fun b z => ?_) fun z => absurd (t0o naP) z
    · by_cases hb : b = P
      · exact .inr (.inl hb)
      · exact .inl (t0o hb)
    · by_cases hb : b = P
      · rw [hb, t0P] at z
        cases z
        rw [hb]
        exact hT
      · rw [t0o hb] at z
        cases z
    · by_cases hb : b = P
      · exact .inr hb
      · exact absurd (t0o hb) z
  | none =>
    let o : Obj := { cls := .type "list", data := .seq vs.toArray }
    let H1 : Hp := fun b => if b = a then some (.frz o (.lst (ns.map V.int))) else t0 b
    have atA : H1 a = some (.frz o (.lst (ns.map V.int))) := if_pos rfl
    have ofA : ∀ {b}, b ≠ a → H1 b = t0 b := fun h => if_neg h
    refine core H1 ((ofA (Ne.symm naP)).trans t0P) (fun b => ?_) (.inl (.inr ⟨o, atA⟩)) (fun b u z => ?_) (fun b z => ?_) fun _ => hk
    · by_cases hb : b = a
      · exact .inr (.inr ⟨_, _, by rw [hb]; exact atA⟩)
      · by_cases hb2 : b = P
        · exact .inr (.inl hb2)
        · exact .inl ((ofA hb).trans (t0o hb2))
    · by_cases hb : b = a
      · rw [hb, atA] at z
        cases z
        rw [hb]
        exact ⟨hobj, by rw [List.length_map]; exact hlen, vs, _, relv, hobj⟩
      · rw [ofA hb] at z
        by_cases hb2 : b = P
        · rw [hb2, t0P] at z
          cases z
          rw [hb2]
          exact hT
        · rw [t0o hb2] at z
          cases z
    · by_cases hb : b = a
      · exact .inl hb
      · by_cases hb2 : b = P
        · exact .inr hb2
        · exact absurd ((ofA hb).trans (t0o hb2)) z
theorem walk_ofGT {l : PySem.W.OpenLaw} {n k : Nat} {q : Program} {loose : List Str} {XP : (Str → Option Value) → Heap → Prop} {YP : World → Heap → Prop} {d : DefRec}
    {K : Params → PySem.W.Frag} {sp : PySem.W.Frag → Addr → Sp} {x : Str}
    (hn : l.most = some n) (hn2 : n ≤ sizeLine) (hdf : d.params.defaults = []) (room : Room k callerA) (hrec : ((recsOf q).any fun e => e.name == d.name) = true)
    (hY : ∀ (w : World) (h : Heap), YP w h → (K w.params).In h)
    (F : ∀ (w : World) (mg : Str → Option Value) (fa : Addr) (h : Heap), (K w.params).In h → h.Ns mainGlobals mg → mg d.name = some (.ref fa) → OwnTab (K w.params) fa h →
      ∃ (fd : FuncData) (c P : Addr), h.get? P = some (tabO #[]) ∧ (K w.params).lookup P = none ∧ PySem.W.CodeHd h c P ∧ (∀ (s : Shared) (u : Value), BindsTo s fd ⟨[u], []⟩ [(x, u)]) ∧
        ∀ base : Heap, (K w.params).In base → base.Ns mainGlobals mg → TabB base mg c P → FnG l.prog w (K w.params) mg base k fa fd [x] (sp (K w.params) P))
    (want : ∀ (K : PySem.W.Frag) (H : Hp) (a P : Addr) (ns : List Int), ns.length ≤ n → H P = some (.tbl #[]) → SqL K H a (ns.map V.int) → sp K P [.ref a] H (fun v _ => v = .bl true) fun _ _ _ => False) :
    PySem.W.WalkO q loose XP YP l.row.toRowW d [] (fun f vs => PySem.call f vs) := by
  refine Att.attach_callB hn hdf fun w s₀ s₁ mg mb fa o pm cd doc a vs ns G Y ho hd hcd hmg hobj hints hlen hbits hg => ?_
  have KX := hY w _ Y
  have own : OwnTab (K w.params) fa s₁.heap := fun c P o1 fd1 e dd vs1 sl k1 k2 k3 k4 k5 => by
    obtain ⟨dL, hm, hn1⟩ := List.any_eq_true.mp hrec
    have hname : dL.name = d.name := beq_iff_eq.mp hn1
    obtain ⟨a', o', fd', c', P', h1, h2, h3, h4, h5, h6⟩ := G.T.tab dL hm
    rw [hname, hmg] at h1
    cases h1
    rw [KX _ _ k1] at h2
    cases h2
    rw [k2] at h3
    cases h3
    rw [k3] at h4
    cases h4
    obtain ⟨⟨oc, vc, e1, _, e3, e4⟩, hP⟩ := h6
    rw [KX _ _ k4] at e1
    cases e1
    cases e3
    rw [k5] at e4
    cases e4
    exact hP
  obtain ⟨fd, c, P, hT, nT, C, hb, hF⟩ := F w mg fa _ KX G.T.g hmg own
  exact law_callGT KX G.T.g G.T.b G.T.builtins G.T.nolimit hg hT nT C G.T.bmain hobj hints (Nat.le_trans hlen hn2) room hF hb fun H hH hS => want (K w.params) H a P ns hlen hH hS
section
variable {P : Program} {w : World} {K : PySem.W.Frag} {mg : Str → Option Value} {base : Heap}
/-- okG, the code object known -/
theorem okGc {x qual : Str} {st : Stmt} {f c : Addr} {fd : FuncData} {N ps : List Str} {k : Nat} {sp : Sp} (F : Fun K x qual st f fd) (hc : fd.code = .ref c)
    (S : FnScope N ps (defScope st)) (len : ∀ vs H Q E, sp vs H Q E → vs.length = ps.length)
    (body : ∀ (A : Around) (outer : List Env) (s : Shared) (H : Hp) (vs : List V) (Q : VK) (E : XK), A.guards = some [] →
      Room k (A.deeper (envOfC qual (defScope st) s.heap.objs.size f (.ref c))) → sp vs H Q E →
      ∃ t, PSs (cxOf CX0 P w K mg base N qual (defScope st) f (.ref c) A outer s H E).nox (defBody st) t ∧
        t { nx := fun _ H' => Q .non H', rt := Q } (start N vs) H) :
    FnG P w K mg base (k + 1) f fd ps sp := by
  obtain ⟨oc, od, kV, doc, pm, an, cdv, ct, osl, rfl, lk, hcd⟩ := F.ex
  obtain rfl : cdv = .ref c := hc
  refine ⟨len, fun A outer s H args us vs Q E hg room env0 binds rel want => ?_⟩
  have inK : K.In s.heap := env0.mod.kin.keeps fun b o e => (env0.bs b o e).1
  have noLim : s.heap.NoLimit := env0.mod.nolimit.keeps fun b o e => (env0.bs b o e).1
  have kinds : ∀ y ∈ ps.zip us, (defScope st).names.lookup y.1 = some .local ∨
      ((defScope st).names.lookup y.1 = some .cell ∧ ((cellsFrom (s.heap.objs.size + 1) (defScope st).names []).lookup y.1).isSome = true) := by
    rintro ⟨n, v⟩ hy
    rcases S.par n (List.of_mem_zip hy).1 with q | q
    · exact Or.inl q
    · exact Or.inr ⟨q, PySem.W.cellsFrom_some _ _ _ (Or.inl q)⟩
  refine codeAny_call_function room.depth (inK _ _ lk) rfl S.co S.gen rfl (PySem.W.codeRec_of inK hcd)
    (binds _ _ _ _ ?_)
  refine wpAny_newFunctionEnv_cells S.kind kinds
    fun env he s1 x => ?_
  subst he
  refine ⟨noLim.keeps x.toInCall.keep,
    codeAny_func ?_⟩
  obtain ⟨t, ht, run⟩ := body A outer s H vs Q E hg (room.deeper _) want
  have start0 : Inv (cxOf CX0 P w K mg base N qual (defScope st) f (.ref c) A outer s H E) [] (start N vs) H s1 :=
    inv_start S room.hd env0 (len _ _ _ _ want) rel x
  refine wpAny_mono (ht.nox.run [] s1 (start N vs) H _ start0 run)
    (fun flow s' hs => ?_) fun e s' hs => hs
  have fin : ∀ {σ' : L2.St} {H' : Hp} {v : V} {u : Value}, Inv (cxOf CX0 P w K mg base N qual (defScope st) f (.ref c) A outer s H E) [] σ' H' s' →
      RelV v u → Q v H' → CE outer P w H s Q u s' :=
    fun {_ H' v _} J rv q => ⟨v, H', J.os, J.bare, J.base, J.hok, rv, q⟩
  cases flow with
  | ret u =>
    obtain ⟨v, σ', H', J, rv, q⟩ := hs
    exact fin J rv q
  | next =>
    obtain ⟨σ', H', J, q⟩ := hs
    exact fin (v := V.non) (u := Value.none) J rfl q
  | brk => obtain ⟨_, _, _, q⟩ := hs; exact q.elim
  | cont => obtain ⟨_, _, _, q⟩ := hs; exact q.elim
end
section
variable {X : Cx}
end
end My

/-! rules within a comprehension: the written part by its own name -/
namespace My
open PySem PySem.Spec PyProof.Rows L2
section
variable {X : Cx}
theorem pg_tupK {K : PySem.W.Frag} {es : List Expr} {k : Nat} {pos : Pos} {t : TGs} {n : Nat} (hc : X.calm = true) (h : PGs X es t) (hK : X.K = K := by rfl)
    (hn : (assignEach es X.env).length = n := by rfl) (hst : (assignEach es X.env).findIdx? (·.1) = none := by rfl) : PG X (.Tuple es k pos) (gTup K n t) := by
  subst hK
  exact pg_tup hc h hn hst
theorem call_reprK {K : PySem.W.Frag} (hg : X.A.guards = some []) (hu : X.A.units + 64 < cLine) (h : X.K = K := by rfl) : CallR X (.builtin "repr") (rRepr K) := by
  subst h
  exact call_repr hg hu
variable {o e : Expr} {es : List Expr} {to : TE} {t : TA} {name : Str} {apos cpos : Pos} {T id : String} {r : V → List V → Hp → VK → Prop}
theorem pe_bmK {K : PySem.W.Frag} (pa : PlainAttrs T) (slot : Slot T name id) (hty : typeOf (.builtin id) = pure (.type "method_descriptor")) (hm : MtR X id r) (ho : PE X o to) (ha : PA X (e :: es) t) (hK : X.K = K := by rfl)
    (hbase : attributeBase o name X.env (eval o X.env) = eval o X.env := by rfl)
    (hfew : ((backTo cpos (starEach (e :: es) X.env)).all (fun x => !x.1) && (backToKw cpos (keywordEach [] X.env)).all (fun x => x.1.isSome)
      && decide ((e :: es).length + ([] : List Keyword).length + (if ([] : List Keyword).isEmpty then 0 else 1) < 30)) = true := by rfl)
    (hline : (apos.endLine == cpos.line) = true := by rfl) (hs : starEach (e :: es) X.env = (false, eval e X.env) :: starEach es X.env := by rfl) (hplain : (backTo cpos (starEach es X.env)).any (·.1) = false := by rfl) :
    PE X (.Call (.Attribute o name apos) (e :: es) [] cpos) (tBM K T r to t) := by
  subst hK
  exact pe_bm pa slot hty hm ho ha hbase hfew hline hs hplain
end
end My

/-! Laws with _law_outcome(lambda: ..): what they share. -/
namespace My
open PySem PySem.Spec PyProof.Rows L2
/-- isinstance, asked of each of the classes -/
def kitEach (K : PySem.W.Frag) (cls : Value) : List Value → List Bool → Prop
  | [], [] => True
  | c :: r, b :: q => PySem.W.kitOne K cls c = some b ∧ kitEach K cls r q
  | _, _ => False
theorem kit_self {K : PySem.W.Frag} {C : Addr} : PySem.W.kitOne K (.ref C) (.ref C) = some true := by
  unfold PySem.W.kitOne
  rw [if_pos (by simp)]
theorem kit_no {K : PySem.W.Frag} {D C : Addr} (isC : PySem.W.isClsIn K C = true) (tC : PySem.W.typeIn K (.ref C) = some (.type "type")) (sD : PySem.W.subIn K (.ref D) (.ref D) = some true) (s : PySem.W.subIn K (.ref D) (.ref C) = some false) :
    PySem.W.kitOne K (.ref D) (.ref C) = some false := by
  have h : (PySem.W.clsIn K C).isSome = true := isC
  unfold PySem.W.kitOne
  rw [if_neg (fun z => by
    have e : D = C := Value.ref.inj (beq_iff_eq.mp z)
    subst e
    rw [sD] at s
    cases s)]
  show (if ((PySem.W.clsIn K C).isSome && PySem.W.typeIn K (.ref C) == some (.type "type")) = true then PySem.W.subIn K (.ref D) (.ref C) else none) = some false
  rw [if_pos (by rw [h, tC]; rfl)]
  exact s
theorem exm_of {K : PySem.W.Frag} {S C : Addr} {b : Bool} (base : PySem.W.subIn K (.ref C) (.type "BaseException") = some true) (isCls : PySem.W.isClsIn K C = true)
    (ty : PySem.W.typeIn K (.ref C) = some (.type "type")) (sub : PySem.W.subIn K (.ref S) (.ref C) = some b) : PySem.W.exmOne K (.ref S) (.ref C) = some b := by
  unfold PySem.W.exmOne
  rw [if_pos (by rw [base]; rfl)]
  show (if ((PySem.W.clsIn K C).isSome && PySem.W.typeIn K (.ref C) == some (.type "type")) = true then PySem.W.subIn K (.ref S) (.ref C) else none) = some b
  have h : (PySem.W.clsIn K C).isSome = true := isCls
  rw [if_pos (by rw [h, ty]; rfl)]
  exact sub
section
variable {X : Cx}
def rNotInDT (K : PySem.W.Frag) : R2 := fun x y H Q => ∃ d ds, Dp K H x d ∧ Dp K H y (.tuple ds) ∧ SeqAt.shaped d = true ∧ SeqAt.shaped (.tuple ds) = true ∧ Q (.bl (!ds.any fun z => PyData.eqv z d)) H
theorem op_notInDT (hu : X.A.units + 65 < cLine) : OpR X (compareOp .NotIn) (rNotInDT X.K) := by
  intro pins s σ H x y v u Q I rx ry h
  obtain ⟨d, ds, hd, he, sd, se, q⟩ := h
  obtain ⟨as, r1⟩ := Dp.reads I d x v hd rx
  obtain ⟨bs, r2⟩ := Dp.reads I (.tuple ds) y u he ry
  exact SeqAt.notIn_tuple_reads r2 r1 (SeqAt.canLay_of_shaped se) (SeqAt.canLay_of_shaped sd) (room_in_shaped sd hu) ⟨.bl _, H, I, rfl, q⟩
end
end My

set_option maxHeartbeats 4000000
/-! own errors as values, made by position or by names -/
namespace My
open PySem PySem.HandSPX PySem.Calls
section
variable {M : Model} {A : Around} {E : Value → Shared → Prop} {h : Heap} {g : Array GenState} {d : Drawn} {t : Nat} {os : OsState}
variable {nm q : Str} {C N : Addr} {bs bm bmB : List Value} {hdct : Bool} {sn : List Str} {sub : List Value} {ab : Bool} {col : Option Bool} {dd : Option Addr} {k0 k1 k2 k3 k5 : Option Value} {B newId initId : String}
theorem check_new_kw (F : ExcBaseFacts B newId initId bmB) (hT : ∀ X : String, bm.contains (.type X) = bmB.contains (.type X)) {rest : List Value} {kw : List (Str × Value)} {Q : Unit → Shared → Prop}
    (hC : h.get? C = some (excClassObj nm q C N bs bm hdct sn sub ab col dd k0 k1 k2 k3 k5 newId)) (hq : Q () ⟨h, g, d, t, os⟩) : wpAny M A (checkBuiltinCall newId ⟨.ref C :: rest, kw⟩) Q E ⟨h, g, d, t, os⟩ := by
  have hcont : (Value.ref C :: bm).contains (.type B) = true := by rw [List.contains_cons, hT, F.hasB, Bool.or_true]
  have hstar := F.noStar
  simp only [checkBuiltinCall, F.newKind, F.newSplit, F.newRow]
  repeat (first | refine wpAny_loadPart_at hC ?_ | (refine wpAny_isSubtype_exc hC ?_; rw [hcont]) | refine wpAny_staticBase_exc hC ?_ | refine wpAny_madeBy_exc hC ?_ | simp only [bne_self_eq_false, Bool.false_eq_true, if_false] | wp_step)
  exact hq
theorem check_type_call_kw {rest : List Value} {kw : List (Str × Value)} {Q : Unit → Shared → Prop} (hC : h.get? C = some (excClassObj nm q C N bs bm hdct sn sub ab col dd k0 k1 k2 k3 k5 newId))
    (hq : Q () ⟨h, g, d, t, os⟩) : wpAny M A (checkBuiltinCall "type.__call__" ⟨.ref C :: rest, kw⟩) Q E ⟨h, g, d, t, os⟩ := by
  have f3 := tc_sub
  have hT : (⟨h, g, d, t, os⟩ : Shared).TypeIs (.ref C) "type" := ⟨_, hC, rfl⟩
  simp only [checkBuiltinCall, tc_kind, tc_split]
  repeat (any_goals (first | assumption | with_reducible refine wpAny_loadPart_at hC ?_ | with_reducible refine wpAny_onRaise ?_ | with_reducible refine wpAny_map ?_ | wp_step))
end
section
variable {prog : Program} {w : World} {A : Around} {E : Value → Shared → Prop} {R : Result → Shared → Prop} {h : Heap} {g : Array GenState} {d : Drawn} {t : Nat} {os : OsState}
variable {nm q : Str} {C N : Addr} {bs bm bmB : List Value} {hdct : Bool} {sn : List Str} {sub : List Value} {ab : Bool} {col : Option Bool} {dd : Option Addr} {k0 k1 k2 k3 k5 : Option Value} {B newId initId : String}
theorem new_kw (F : ExcBaseFacts B newId initId bmB) (hT : ∀ X : String, bm.contains (.type X) = bmB.contains (.type X)) {rest : List Value} {kw : List (Str × Value)}
    (hC : h.get? C = some (excClassObj nm q C N bs bm hdct sn sub ab col dd k0 k1 k2 k3 k5 newId))
    (hq : R (.ok (.ret (.ref (h.objs.size + 1)))) ⟨(h.push { cls := .type "tuple", data := .seq rest.toArray }).push
      { cls := .ref C, data := .fields #[.ref h.objs.size, .none, .none, .none, .bool false, .none] }, g, d, t, os⟩) (hrest : rest.length ≤ sizeLine) :
    codeAny (model prog w) A (.builtin newId ⟨.ref C :: rest, kw⟩) R ⟨h, g, d, t, os⟩ := by
  have hends := F.ends
  have hcB : (Value.ref C :: bm).contains (.type B) = true := by rw [List.contains_cons, hT, F.hasB, Bool.or_true]
  have hcA : (Value.ref C :: bm).contains (.type "AttributeError") = false := by rw [List.contains_cons, hT, F.noAttr]; rfl
  have hcN : (Value.ref C :: bm).contains (.type "NameError") = false := by rw [List.contains_cons, hT, F.noName]; rfl
  refine codeAny_builtinAt F.entry ?_
  unfold Builtin.«BaseException.__new__»
  refine wpAt_bind ?_
  show wpAt _ _ _ (stack >>= _) _ _ _
  refine wpAt_bind (wpAt_stack fun p below => wpAt_of_wpAny ?_)
  wp_walk
  refine wpAt_of_wpAny ?_
  rw [F.owner]
  repeat (first | with_reducible refine wpAny_madeHere_exc F.canon hC ?_ | with_reducible refine wpAny_loadPart_at hC ?_ | (with_reducible refine wpAny_isSubtype_exc hC ?_; first | rw [hcB] | rw [hcA] | rw [hcN]) | wp_step)
  show R _ _
  rw [Heap.size_push]
  exact hq
theorem type_call_kw (F : ExcBaseFacts B newId initId bmB) (hT : ∀ X : String, bm.contains (.type X) = bmB.contains (.type X)) {rest : List Value} {kw : List (Str × Value)} {fI : Addr} {Q : Fin → Shared → Prop}
    (hC : h.get? C = some (excClassObj nm q C N bs bm hdct sn sub ab col dd k0 k1 k2 k3 k5 newId))
    (hi : W.Looks (model prog w) h (typeLookup (.ref C) "__init__") (some (.ref fI))) (hb : ∀ self, W.Looks (model prog w) h (bindSpecial (.ref fI) self) (.ref fI, [self])) (hrest : rest.length ≤ sizeLine)
    (hq : codeAny (model prog w) A (.call (.ref fI) ⟨.ref (h.objs.size + 1) :: rest, kw⟩)
      (fun r s' => match r with | .ok (.ret v) => v = .none ∧ Q (.done (.ret (.ref (h.objs.size + 1)))) s' | .ok _ => False | .error e => E e s')
      ⟨(h.push (W.kdv_tup rest)).push (excO C h.objs.size), g, d, t, os⟩) :
    wpAny (model prog w) A (Builtin.«type.__call__» ⟨.ref C :: rest, kw⟩) Q E ⟨h, g, d, t, os⟩ := by
  repeat (first | with_reducible refine wpAny_loadPart_at hC ?_ | with_reducible refine wpAny_madeBy_exc hC ?_ | wp_step)
  refine codeAny_call_builtin_code (Code.quiet_builtin _ F.quiet) (check_new_kw F hT hC ?_)
  refine new_kw F hT hC ?_ hrest
  show wpAny _ _ _ _ _ _
  have k : ∀ b o, h.get? b = some o → ((h.push (W.kdv_tup rest)).push (excO C h.objs.size)).get? b = some o := fun b o e => Heap.get?_push_of_some _ (Heap.get?_push_of_some _ e)
  have hC₁ := k _ _ hC
  have hget : ((h.push (W.kdv_tup rest)).push (excO C h.objs.size)).get? (h.objs.size + 1) = some (excO C h.objs.size) := by heap_get
  have hcC : (Value.ref C :: bm).contains (.ref C) = true := by simp
  have i1 := hi.keeps k
  have b1 := (hb (.ref (h.objs.size + 1))).keeps k
  unfold isInstance
  repeat (first | with_reducible refine wpAny_loadPart_at hget ?_ | (with_reducible refine wpAny_isSubtype_exc hC₁ ?_; rw [hcC]) | wp_step)
  show wpAny _ _ (typeLookup (.ref C) _) _ _ _
  refine i1.at ?_
  refine wpAny_holding (wpAny_bind (b1.at ?_))
  refine wpAny_bind (wpAny_call (codeAny_mono hq fun r s' z => ?_))
  rcases r with e | (v | _ | _ | _) <;> first | exact z | exact z.elim | skip
  obtain ⟨rfl, z⟩ := z
  first
    | exact wpAny_pure (wpAny_pure z)
    | (wp_walk; exact z)
theorem call_kw (F : ExcBaseFacts B newId initId bmB) (hT : ∀ X : String, bm.contains (.type X) = bmB.contains (.type X)) {rest : List Value} {kw : List (Str × Value)} {fI : Addr}
    (hC : h.get? C = some (excClassObj nm q C N bs bm hdct sn sub ab col dd k0 k1 k2 k3 k5 newId))
    (hi : W.Looks (model prog w) h (typeLookup (.ref C) "__init__") (some (.ref fI))) (hb : ∀ self, W.Looks (model prog w) h (bindSpecial (.ref fI) self) (.ref fI, [self])) (hrest : rest.length ≤ sizeLine)
    (hq : codeAny (model prog w) (A.under (.builtin "type.__call__" ⟨.ref C :: rest, kw⟩)) (.call (.ref fI) ⟨.ref (h.objs.size + 1) :: rest, kw⟩) (W.InitBack (h.objs.size + 1) R)
      ⟨(h.push (W.kdv_tup rest)).push (excO C h.objs.size), g, d, t, os⟩) :
    codeAny (model prog w) A (.call (.ref C) ⟨rest, kw⟩) R ⟨h, g, d, t, os⟩ := by
  have f1 := tc_lookup
  have f2 := tc_bind (.ref C)
  have hTy : (⟨h, g, d, t, os⟩ : Shared).TypeIs (.ref C) "type" := ⟨_, hC, rfl⟩
  refine codeAny_of_tree ?_
  show wpAny _ _ (callAny (.ref C) _) _ _ _
  repeat (any_goals (first | assumption | with_reducible refine wpAny_loadPart_at hC ?_ | wp_step))
  refine ⟨rfl, ?_⟩
  refine codeAny_call_builtin_at (Code.quiet_builtin _ (by decide +kernel)) entry_typeCall (check_type_call_kw hC (type_call_kw F hT hC hi hb hrest ?_))
  refine codeAny_mono hq fun r s' z => ?_
  rcases r with e | (v | _ | _ | _) <;> exact z
end
end My
namespace My
open PySem PySem.Spec PyProof.Rows L2
/-- a class of exceptions whose instances are made -/
structure VcC (K : PySem.W.Frag) (C : Addr) : Prop where
  look : ∃ (B newId initId : String) (bmB : List Value) (nm q : Str) (N : Addr) (bs bm : List Value) (sn : List Str) (sub : List Value) (ab : Bool) (col : Option Bool) (dd : Option Addr) (k0 k1 k2 k3 k5 : Option Value),
    ExcBaseFacts B newId initId bmB ∧ (∀ X : String, bm.contains (.type X) = bmB.contains (.type X)) ∧ K.lookup C = some (excClassObj nm q C N bs bm true sn sub ab col dd k0 k1 k2 k3 k5 newId)
  kC : PySem.W.keepIn K (.ref C) = true
theorem OexC.vc {K : PySem.W.Frag} {C : Addr} (T : OexC K C) : VcC K C := by
  obtain ⟨nm, q, N, bs, bm, sn, sub, ab, col, dd, k0, k1, k2, k3, k5, hC, hbm⟩ := T.cls
  exact ⟨⟨_, _, _, _, nm, q, N, bs, bm, sn, sub, ab, col, dd, k0, k1, k2, k3, k5, F.excBase_ValueError, fun Y => PySem.HandSPX.refsVE_contains Y bm hbm, hC⟩, T.kC⟩
theorem TgC.vc {K : PySem.W.Frag} {C : Addr} (T : TgC K C) : VcC K C := by
  obtain ⟨nm, q, N, bs, sn, sub, ab, col, dd, k0, k1, k2, k3, k5, hC⟩ := T.look
  exact ⟨⟨_, _, _, _, nm, q, N, bs, _, sn, sub, ab, col, dd, k0, k1, k2, k3, k5, F.excBase_OverflowError, fun _ => rfl, hC⟩, T.keep⟩
theorem NthC.vc {K : PySem.W.Frag} {C : Addr} (T : NthC K C) : VcC K C := by
  obtain ⟨nm, q, N, bs, sn, sub, ab, col, dd, k0, k1, k2, k3, k5, hC⟩ := T.look
  exact ⟨⟨_, _, _, _, nm, q, N, bs, _, sn, sub, ab, col, dd, k0, k1, k2, k3, k5, F.excBase_LookupError, fun _ => rfl, hC⟩, T.kC⟩
/-- C(e, ..), or by names: the new error stands, then __init__ -/
def tMkV (C : Addr) (n m : Nat) (sp : Sp) (gV : List V → List V → List V) (t tk : TA) : TE := fun σ H Q => t σ H fun vs H1 => tk σ H1 fun zs H2 => vs.length = n ∧ zs.length = m ∧ ∀ a, H2 a = none →
  sp (gV (.ref a :: vs) zs) (upd H2 a (exo a C none)) (fun v H3 => v = .non ∧ Q (.ref a) H3) (fun _ _ _ => False)
section
variable {X : Cx} {CX : CXT} {k n : Nat} {fI C : Addr} {fd : FuncData} {ps ks : List Str} {sp : Sp} {x : Str} {p pos : Pos} {e : Expr} {es : List Expr} {kws : List Keyword} {t tk : TA} {g : List Value → List Value → List Value} {gV : List V → List V → List V}
theorem run_mkV {pins : List (Addr × Obj)} {σ : L2.St} {H : Hp} {s : Shared} {Q : VK} {us ws : List Value} {vs zs : List V} (M : VcC X.K C) (iC : PySem.W.findIn X.K (.ref C) "__init__" = some (some (.ref fI))) (tI : PySem.W.typeIn X.K (.ref fI) = some (.type "function"))
    (F1 : FnOk X.prog X.w X.K X.mg X.base CX k fI fd ps sp) (hr : Room (k + 1) X.A) (hb : KBn X.K fd ps (n + 1) ks g gV) (hx : Passes CX X (fun _ _ _ => False)) (hn : n ≤ 1000)
    (I : Inv X pins σ H s) (r : Vals vs us) (rz : Vals zs ws) (l1 : vs.length = n) (l2 : zs.length = ks.length)
    (h : ∀ a, H a = none → sp (gV (.ref a :: vs) zs) (upd H a (exo a C none)) (fun v H2 => v = .non ∧ Q (.ref a) H2) (fun _ _ _ => False)) :
    wpAny (model X.prog X.w) X.A (call (.ref C) us (ks.zip ws)) (EP X pins σ Q) X.xe s := by
  obtain ⟨B, newId, initId, bmB, nm, q, N, bs, bm, sn, sub, ab, col, dd, k0, k1, k2, k3, k5, Fb, hT, hC⟩ := M.look
  obtain ⟨hp, ge, dr, tok, os⟩ := s
  have over : hp.objs.size ≤ hp.objs.size + 1 := Nat.le_succ _
  have new : H (hp.objs.size + 1) = none := I.hok.fresh over
  have want := h (hp.objs.size + 1) new
  have stays : ∀ b o, hp.get? b = some o → ((hp.push (PySem.W.kdv_tup us)).push (PySem.HandSPX.excO C hp.objs.size)).get? b = some o := fun b o z =>
    Heap.get?_push_of_some _ (Heap.get?_push_of_some _ z)
  have made : ((hp.push (PySem.W.kdv_tup us)).push (PySem.HandSPX.excO C hp.objs.size)).get? (hp.objs.size + 1) = some (PySem.HandSPX.excO C hp.objs.size) := by
    heap_get
  have I2 := I.laid (t' := tok) (a := hp.objs.size + 1) (o := exo (hp.objs.size + 1) C none)
    (h' := (hp.push (PySem.W.kdv_tup us)).push (PySem.HandSPX.excO C hp.objs.size)) stays over (exo_ok made)
  have r1 : Vals (V.ref (hp.objs.size + 1) :: vs) (Value.ref (hp.objs.size + 1) :: us) := .cons rfl r
  have r2 := hb.rel r1 rz
  have e1 : (Value.ref (hp.objs.size + 1) :: us).length = n + 1 := r1.length.symm.trans (congrArg Nat.succ l1)
  have e2 : ws.length = ks.length := rz.length.symm.trans l2
  have small : us.length ≤ sizeLine := by
    rw [← Paired.length r, sizeLine_eq]
    omega
  refine wpAny_call (call_kw Fb hT (I.kIn _ _ hC) (PySem.W.looks_findIn I.kIn iC) (fun self => PySem.W.bind_fn I.kIn self tI) small ?_)
  refine codeAny_mono (F1.run _ X.stack _ _ ⟨Value.ref (hp.objs.size + 1) :: us, ks.zip ws⟩ (g (Value.ref (hp.objs.size + 1) :: us) ws) _ _ (fun _ _ _ => False)
    (hr.make C us (ks.zip ws)) (I2.env0.make C us (ks.zip ws)) (hb.to _ (Value.ref (hp.objs.size + 1) :: us) ws I2.kIn e1 e2) r2 want) fun r s2 back => ?_
  match r, back with
  | .error er, back => exact hx pins σ _ _ er s2 I2 back
  | .ok (.ret u), back =>
    obtain ⟨v, H', I3, rv, ev, q3⟩ := I2.after back
    subst ev
    exact ⟨rv, ⟨V.ref (hp.objs.size + 1), H', I3, rfl, q3⟩⟩
theorem pe_mkV (M : VcC X.K C) (iC : PySem.W.findIn X.K (.ref C) "__init__" = some (some (.ref fI))) (tI : PySem.W.typeIn X.K (.ref fI) = some (.type "function")) (F1 : FnOk X.prog X.w X.K X.mg X.base CX k fI fd ps sp) (hr : Room (k + 1) X.A)
    (hg : Gl X x) (hm : X.mg x = some (.ref C)) (hb : KBn X.K fd ps (n + 1) [] g gV) (hx : Passes CX X (fun _ _ _ => False)) (hn : n ≤ 1000) (ha : PA X (e :: es) t)
    (hdb : (x == ("__debug__" : Str)) = false := by decide) (he : starEach (e :: es) X.env = (false, eval e X.env) :: starEach es X.env := by rfl) (hpl : (backTo pos (starEach es X.env)).any (·.1) = false := by rfl) :
    PE X (.Call (.Name x p) (e :: es) [] pos) (tMkV C n 0 sp gV t tNil) := by
  refine ⟨fun pins s σ H Q I h => ?_⟩
  refine wpAny_Call_Name_kw (ld_glob I hg hm ?_ hdb)
  refine PySem.W.callWith_K (h₀ := X.base) I.ok.mod.kin M.kC (thn (ha.run pos pins s σ H _ I h) fun us s1 ⟨vs, H1, I1, r, l1, l2, q2⟩ => ⟨I1.kIn, ?_⟩) he hpl
  exact run_mkV (ks := []) (ws := []) (zs := []) M iC tI F1 hr hb hx hn I1 r .nil l1 l2 q2
theorem pe_mkVK (M : VcC X.K C) (iC : PySem.W.findIn X.K (.ref C) "__init__" = some (some (.ref fI))) (tI : PySem.W.typeIn X.K (.ref fI) = some (.type "function")) (F1 : FnOk X.prog X.w X.K X.mg X.base CX k fI fd ps sp) (hr : Room (k + 1) X.A)
    (hg : Gl X x) (hm : X.mg x = some (.ref C)) (hb : KBn X.K fd ps 1 ks g gV) (hx : Passes CX X (fun _ _ _ => False)) (hkw : PK X kws tk)
    (hall : (backToKw pos (keywordEach kws X.env)).all (·.1.isSome) = true := by rfl) (hks : (backToKw pos (keywordEach kws X.env)).filterMap (·.1) = ks := by rfl) (hdb : (x == ("__debug__" : Str)) = false := by decide)
    (hpl : ((backTo pos (starEach [] X.env)).any (·.1) || (backToKw pos (keywordEach kws X.env)).any (·.1.isNone)) = false := by rfl) :
    PE X (.Call (.Name x p) [] kws pos) (tMkV C 0 ks.length sp gV tNil tk) := by
  refine ⟨fun pins s σ H Q I h => ?_⟩
  refine wpAny_Call_Name_kw (ld_glob I hg hm ?_ hdb)
  refine PySem.W.callWith_KW0 (h₀ := X.base) I.ok.mod.kin M.kC hall ?_ hpl
  refine thn (hkw.run pos pins s σ H _ I h) fun ws s2 ⟨zs, H2, I2, rz, l1, l2, q2⟩ => ⟨I2.kIn, ?_⟩
  rw [hks]
  exact run_mkV (us := []) (vs := []) M iC tI F1 hr hb hx (Nat.zero_le _) I2 .nil rz rfl l2 q2
end
/-- such an error stands -/
def ExV (H : Hp) (a D : Addr) (d : Option Addr) : Prop := H a = some (exo a D d) ∧ ∀ dd, d = some dd → ∃ fs, H dd = some (exd dd fs)
theorem inst_exo {X : Cx} {pins : List (Addr × Obj)} {σ : L2.St} {H : Hp} {s : Shared} {a D : Addr} {d : Option Addr} (I : Inv X pins σ H s) (h : ExV H a D d) :
    ∃ ox od, PySem.W.InstAt s.heap a ox D od := by
  obtain ⟨t1, he⟩ := exo_at I.hok h.1
  cases d with
  | none => exact ⟨_, none, he, rfl, rfl, trivial⟩
  | some dd =>
    obtain ⟨fs, hfs⟩ := h.2 dd rfl
    obtain ⟨mA, hns, hr⟩ := exd_at I.hok hfs
    obtain ⟨od, ho, _⟩ := lookIn_ns hns
    exact ⟨_, some od, he, rfl, rfl, ho⟩
def rIsX (K : PySem.W.Frag) : List V → Hp → VK → Prop := fun xs H Q => ∃ (a D : Addr) (d : Option Addr) (c : V) (cv : Value) (b : Bool), xs = [.ref a, c] ∧ ExV H a D d ∧ ExcC K D ∧ (∀ u, RelV c u → u = cv) ∧ PySem.W.kitOne K (.ref D) cv = some b ∧ Q (.bl b) H
theorem call_isX {X : Cx} : CallR X (.builtin "isinstance") (rIsX X.K) := by
  intro pins s σ H xs us Q I r h
  obtain ⟨a, D, d, c, cv, b, rfl, he, C, hcv, e, q⟩ := h
  cases r with
  | cons rx rr =>
    cases rr with
    | cons rt rr =>
      cases rr
      cases rx
      have ec := hcv _ rt
      subst ec
      exact PySem.W.kia_one (kitx_exT C) I.kIn (inst_exo I he) e (fun z => nomatch z) fun tk => ⟨.bl b, H, I.kept (t' := tk) fun _ _ z => z, rfl, q⟩
def tXfX (K : PySem.W.Frag) (f : Str) (te : TE) : TE := fun σ H Q => te σ H fun x H1 => ∃ (a D dd : Addr) (fs : List (Str × V)) (v : V), x = .ref a ∧ H1 a = some (exo a D (some dd)) ∧ H1 dd = some (exd dd fs) ∧ XfC K D ∧ PySem.W.findIn K (.ref D) f = some none ∧ fs.lookup f = some v ∧ Q v H1
theorem pe_xfX {X : Cx} {e : Expr} {te : TE} {pos : Pos} {n : Str} (he : PE X e te) (hb : attributeBase e n X.env (eval e X.env) = eval e X.env := by rfl) : PE X (.Attribute e n pos) (tXfX X.K n te) := by
  refine ⟨fun pins s σ H Q I h => ?_⟩
  refine attr_of hb (thn (he.run pins s σ H _ I h) fun u s1 hh => ?_)
  obtain ⟨x, H1, I1, rx, a, D, dd, fs, v, ex, hexc, ea, T, hno, l, q⟩ := hh
  subst ex
  obtain rfl : u = Value.ref a := rx
  obtain ⟨t1, ha⟩ := exo_at I1.hok hexc
  obtain ⟨mA, hns, hr⟩ := exd_at I1.hok ea
  obtain ⟨od, ho, hl⟩ := lookIn_ns hns
  obtain ⟨u, hu, ru⟩ := RelO.some_of (v := v) (o := mA n) (by rw [← l]; exact hr n)
  have J : PySem.W.InstAt s1.heap a _ D (some od) := ⟨ha, rfl, rfl, ho⟩
  exact HandSPX.exc_get I1.kIn J T.ga T.gg T.exC (PySem.W.findObj_own T.hdC hno rfl (by rw [hl, hu])) (handed_of ru) ⟨v, H1, I1.tok _, ru, q⟩
theorem kit_ownB {K : PySem.W.Frag} {C : Addr} {T : String} {b : Bool} (m : PySem.W.kitMeta T = true) (s : PySem.W.subIn K (.ref C) (.type T) = some b) : PySem.W.kitOne K (.ref C) (.type T) = some b := by
  unfold PySem.W.kitOne PySem.W.kitCls
  rw [if_neg (fun z => by have := beq_iff_eq.mp z; cases this)]
  show (if PySem.W.kitMeta T = true then PySem.W.subIn K (.ref C) (.type T) else none) = some b
  rw [if_pos m]
  exact s
theorem kit_meta5 : PySem.W.kitMeta "ValueError" = true ∧ PySem.W.kitMeta "OverflowError" = true ∧ PySem.W.kitMeta "LookupError" = true ∧ PySem.W.kitMeta "KeyError" = true ∧ PySem.W.kitMeta "IndexError" = true := by decide +kernel
theorem vals_rev {vs : List V} {us : List Value} (h : Vals vs us) : Vals vs.reverse us.reverse := by
  induction h with
  | nil => exact .nil
  | cons h _ ih => rw [List.reverse_cons, List.reverse_cons]; exact ih.append (.cons h .nil)
end My

set_option maxHeartbeats 1000000
/-! things of many kinds, written out, a dict among them; the text of a list of them -/
namespace My
open PySem PySem.Spec PyProof.Rows L2
mutual
inductive Ev (K : PySem.W.Frag) (H : Hp) : V → PyData → Prop
  | non : Ev K H .non .none
  | bl (b : Bool) : Ev K H (.bl b) (.bool b)
  | int (i : Int) : Ev K H (.int i) (.int i)
  | str (t : Str) : Ev K H (.str t) (.str t)
  | tp {a : Addr} {xs : List V} {ds : List PyData} : SqT K H a xs → EvAll K H xs ds → Ev K H (.ref a) (.tuple ds)
  | ls {a : Addr} {xs : List V} {ds : List PyData} : H a = some (.lst xs) → (a == sysModules) = false → EvAll K H xs ds → Ev K H (.ref a) (.list ds)
  | dk {a : Addr} : H a = some (.dK [(.inr "a", .int 1)]) → Ev K H (.ref a) (.dict [(.str "a", .int 1)])
inductive EvAll (K : PySem.W.Frag) (H : Hp) : List V → List PyData → Prop
  | nil : EvAll K H [] []
  | cons {v : V} {vs : List V} {d : PyData} {ds : List PyData} : Ev K H v d → EvAll K H vs ds → EvAll K H (v :: vs) (d :: ds)
end
mutual
theorem Ev.same {K : PySem.W.Frag} {H H' : Hp} (s : Same H H') : ∀ {v : V} {d : PyData}, Ev K H v d → Ev K H' v d
  | _, _, .non => .non
  | _, _, .bl b => .bl b
  | _, _, .int i => .int i
  | _, _, .str t => .str t
  | _, _, .tp h g => .tp (same_tup s h) (EvAll.same s g)
  | _, _, .ls h n g => .ls (s _ _ h) n (EvAll.same s g)
  | _, _, .dk h => .dk (s _ _ h)
theorem EvAll.same {K : PySem.W.Frag} {H H' : Hp} (s : Same H H') : ∀ {vs : List V} {ds : List PyData}, EvAll K H vs ds → EvAll K H' vs ds
  | _, _, .nil => .nil
  | _, _, .cons h t => .cons (Ev.same s h) (EvAll.same s t)
end
theorem EvAll.app {K : PySem.W.Frag} {H : Hp} : ∀ {vs ws : List V} {ds es : List PyData}, EvAll K H vs ds → EvAll K H ws es → EvAll K H (vs ++ ws) (ds ++ es)
  | _, _, _, _, .nil, h => h
  | _, _, _, _, .cons h t, g => .cons h (EvAll.app t g)
section
variable {X : Cx} {pins : List (Addr × Obj)} {σ : L2.St} {H : Hp} {s : Shared}
mutual
theorem ev_reads (I : Inv X pins σ H s) : ∀ {v : V} {d : PyData} {u : Value}, Ev X.K H v d → L2.RelV v u → ∃ as, Reads s.heap u d as ∧ sysModules ∉ as
  | _, _, _, .non, r => by
    cases r
    exact ⟨_, Reads.none, List.not_mem_nil⟩
  | _, _, _, .bl b, r => by
    cases r
    exact ⟨_, Reads.bool b, List.not_mem_nil⟩
  | _, _, _, .int i, r => by
    obtain ⟨t, rfl⟩ := r
    exact ⟨_, Reads.int i t, List.not_mem_nil⟩
  | _, _, _, .str x, r => by
    obtain ⟨t, rfl⟩ := r
    exact ⟨_, Reads.str x t, List.not_mem_nil⟩
  | _, _, _, .tp h g, r => by
    cases r
    obtain ⟨its, rv, ⟨o, ho, hc, m, hd⟩, _⟩ := I.tuple h
    obtain ⟨as, q, n⟩ := evAll_reads I g rv
    exact ⟨_, Reads.tuple ho hc hd q, n⟩
  | _, _, _, .ls h n g, r => by
    cases r
    obtain ⟨its, rv, ⟨o, m, ho, hc, _, hd⟩, _⟩ := I.list (SqL.of h)
    obtain ⟨as, q, n'⟩ := evAll_reads I g rv
    refine ⟨_, Reads.list ho hc hd q, fun z => ?_⟩
    rcases List.mem_cons.mp z with z | z
    · rw [← z] at n
      exact absurd n (by simp)
    · exact n' z
  | _, _, _, .dk h, r => by
    cases r
    obtain ⟨_, hsm, vs, kv, ⟨o, es, ep, ho, hx, hd, _, hp, _⟩⟩ := I.hok _ _ h
    cases kv with
    | cons k1 k2 =>
      cases k2
      obtain ⟨k1, k3⟩ := k1
      obtain ⟨t1, k3⟩ := k3
      generalize he : es.toList = L at hp
      cases hp with
      | cons p1 p2 p3 =>
        rename_i en es' 
        cases p3
        rw [← k1] at p1
        rw [k3] at p2
        rcases keyIs_shape (k := (.inr "a" : Key)) (v := en.key) p1 with ⟨i, t, e1, _⟩ | ⟨x, t, e1, e2⟩
        · cases e1
        · cases e1
          refine ⟨_, Reads.dict (kvs := [(.str "a", .int 1)]) ho hx.1 hd (as := []) (bs := []) ?_ ?_, fun z => ?_⟩
          · rw [he]
            show ReadsAll _ [en.key] [PyData.str "a"] ([] ++ [])
            rw [e2]
            exact .cons (.str _ _) .nil
          · rw [he]
            show ReadsAll _ [en.val] [PyData.int 1] ([] ++ [])
            rw [p2]
            exact .cons (.int _ _) .nil
          · have := List.mem_singleton.mp (by simpa using z)
            rw [← this] at hsm
            exact absurd hsm (by simp)
theorem evAll_reads (I : Inv X pins σ H s) : ∀ {xs : List V} {ds : List PyData} {us : List Value}, EvAll X.K H xs ds → Vals xs us → ∃ as, ReadsAll s.heap us ds as ∧ sysModules ∉ as
  | _, _, _, .nil, r => by
    cases r
    exact ⟨_, ReadsAll.nil, List.not_mem_nil⟩
  | _, _, _, .cons h t, r => by
    cases r with
    | cons r1 r2 =>
      obtain ⟨as, q1, n1⟩ := ev_reads I h r1
      obtain ⟨bs, q2, n2⟩ := evAll_reads I t r2
      exact ⟨_, ReadsAll.cons q1 q2, fun z => (List.mem_append.mp z).elim n1 n2⟩
end
end
def rReprE (K : PySem.W.Frag) : List V → Hp → VK → Prop := fun xs H Q => ∃ (a : Addr) (ys : List V) (ds : List PyData), xs = [.ref a] ∧ H a = some (.lst ys) ∧ (a == sysModules) = false ∧ EvAll K H ys ds ∧ (PyData.list ds).showable = true ∧ (PyData.list ds).depth ≤ 60 ∧ (PyData.list ds).shown.length ≤ sizeLine ∧ Q (.str (PyData.list ds).shown) H
theorem call_reprE {X : Cx} {K : PySem.W.Frag} (hg : X.A.guards = some []) (hu : X.A.units + 64 < cLine) (hK : X.K = K := by rfl) : CallR X (.builtin "repr") (rReprE K) := by
  subst hK
  intro pins s σ H xs us Q I r h
  obtain ⟨a, ys, ds, rfl, h1, h0, h2, hs, hdp, hz, q⟩ := h
  obtain ⟨u, rfl, ru⟩ := vals1 r
  obtain ⟨as, hr, hno⟩ := ev_reads I (.ls h1 h0 h2) ru
  cases ru
  refine repr_of_reads' hr hs (fun _ => hno) hg (by omega) (fun _ _ e => e) (fun h' u tk hk => ?_) hz
  exact ⟨.str _, H, I.kept hk, ⟨_, rfl⟩, q⟩
/-- two lists in one, off the table of modules -/
def rCatB : R2 := fun x y H Q => ∃ l b xs zs, x = .ref l ∧ y = .ref b ∧ H l = some (.lst xs) ∧ H b = some (.lst zs) ∧ xs.length + zs.length ≤ sizeLine ∧ ∀ p, H p = none → (p == sysModules) = false → Q (.ref p) (upd H p (.lst (xs ++ zs)))
theorem op_catB {X : Cx} : OpR X (binaryOp .Add) rCatB := by
  intro pins s σ H x y v u Q I rx ry h
  obtain ⟨l, b, xs, zs, rfl, rfl, hH, hB, hz, q⟩ := h
  cases rx
  cases ry
  obtain ⟨z, its, n, r, hl, e⟩ := I.lstM hH
  obtain ⟨z2, its2, n2, r2, hl2, e2⟩ := I.lstM hB
  refine PySem.P.add_list e e2 ?_ (by rw [List.size_toArray, List.size_toArray]; omega)
  have ea : its.toArray ++ its2.toArray = (its ++ its2).toArray := by simp
  rw [ea]
  exact ⟨.ref _, _, I.lnew (t' := s.toks) (r.append r2) (by rw [List.length_append]; omega), rfl, q _ I.fresh (beq_eq_false_iff_ne.mpr (Ne.symm (Nat.ne_of_lt I.big)))⟩
/-- a list written out, off the table of modules -/
def tLstE (t : TA) : TE := fun σ H Q => t σ H fun xs H1 => xs.length ≤ sizeLine ∧ ∀ p, H1 p = none → (p == sysModules) = false → Q (.ref p) (upd H1 p (.lst xs))
theorem pe_lstE {X : Cx} {es : List Expr} {pos : Pos} {t : TA} (h : PA X es t) : PE X (.List es pos) (tLstE t) := by
  refine ⟨fun pins s σ H Q I hq => ?_⟩
  refine wpAny_List_spliced (thn (h.run pos pins s σ H _ I hq) fun us s1 ⟨xs, H1, I1, r, z, q⟩ => ⟨by rw [← r.length]; exact z, ?_⟩)
  have hf : H1 s1.heap.objs.size = none := I1.hok.fresh (Nat.le_refl _)
  refine ⟨.ref s1.heap.objs.size, upd H1 s1.heap.objs.size (.lst xs), I1.laid (t' := s1.toks) (fun b u e => Heap.get?_push_of_some _ e) (Nat.le_refl _) ?_, rfl, q _ hf (beq_eq_false_iff_ne.mpr (Ne.symm (Nat.ne_of_lt I1.big)))⟩
  exact ⟨z, us, 0, r, Heap.get?_push_size _ rfl⟩
theorem kbn_of {K : PySem.W.Frag} {fd : FuncData} {ps : List Str} {n : Nat} (b : Binds K fd ps []) (hn : ps.length = n) : KBn K fd ps n [] (fun us _ => us) (fun vs _ => vs) := by
  refine ⟨fun s us ws X l1 l2 => ?_, fun r _ => r⟩
  have := b s us X (by rw [List.append_nil, l1, hn])
  rw [List.append_nil] at this
  exact this
end My

namespace My
open PySem PySem.Spec PyProof.Rows L2
def top (i : Nat) : Stmt := PySem.Challenge.pw_stepsound_k01_errors.main.body.getD i (.Pass ⟨0, 0, 0, 0⟩)
abbrev s_law_begun : Stmt := top 10
abbrev s_law_next : Stmt := top 11
abbrev s_law_marks : Stmt := top 12
abbrev s_law_above : Stmt := top 13
abbrev s_law_made : Stmt := top 14
abbrev s_law_right : Stmt := top 15
abbrev s_law : Stmt := top 16
abbrev si_BadCoder : Stmt := inClass (top 1) 0
theorem sci_BadCoder : FnScope ["self", "part", "number"] ["self", "part", "number"] (defScope si_BadCoder) := ⟨rfl, rfl, rfl, by decide +kernel, rfl, by decide +kernel, by decide +kernel⟩
abbrev si_BadRow : Stmt := inClass (top 2) 0
theorem sci_BadRow : FnScope ["self", "row", "word"] ["self", "row", "word"] (defScope si_BadRow) := ⟨rfl, rfl, rfl, by decide +kernel, rfl, by decide +kernel, by decide +kernel⟩
abbrev si_BadPaper : Stmt := inClass (top 3) 0
theorem sci_BadPaper : FnScope ["self", "part", "number"] ["self", "part", "number"] (defScope si_BadPaper) := ⟨rfl, rfl, rfl, by decide +kernel, rfl, by decide +kernel, by decide +kernel⟩
abbrev si_BadByte : Stmt := inClass (top 4) 0
theorem sci_BadByte : FnScope ["self", "number"] ["self", "number"] (defScope si_BadByte) := ⟨rfl, rfl, rfl, by decide +kernel, rfl, by decide +kernel, by decide +kernel⟩
abbrev si_OutOfPlace : Stmt := inClass (top 5) 0
theorem sci_OutOfPlace : FnScope ["self", "text"] ["self", "text"] (defScope si_OutOfPlace) := ⟨rfl, rfl, rfl, by decide +kernel, rfl, by decide +kernel, by decide +kernel⟩
abbrev si_NoSeam : Stmt := inClass (top 6) 0
theorem sci_NoSeam : FnScope ["self", "text"] ["self", "text"] (defScope si_NoSeam) := ⟨rfl, rfl, rfl, by decide +kernel, rfl, by decide +kernel, by decide +kernel⟩
abbrev si_TooGreat : Stmt := inClass (top 7) 0
theorem sci_TooGreat : FnScope ["self", "most"] ["self", "most"] (defScope si_TooGreat) := ⟨rfl, rfl, rfl, by decide +kernel, rfl, by decide +kernel, by decide +kernel⟩
abbrev si_Nothing : Stmt := inClass (top 8) 0
theorem sci_Nothing : FnScope ["self", "text"] ["self", "text"] (defScope si_Nothing) := ⟨rfl, rfl, rfl, by decide +kernel, rfl, by decide +kernel, by decide +kernel⟩
theorem sc_law_begun : FnScope ["script", "cell"] ["script"] (defScope s_law_begun) := ⟨rfl, rfl, rfl, by decide +kernel, rfl, by decide +kernel, by decide +kernel⟩
theorem sc_law_next : FnScope ["m", "many", "rest", "k", "cell", "mixed"] ["m", "many"] (defScope s_law_next) := ⟨rfl, rfl, rfl, by decide +kernel, rfl, by decide +kernel, by decide +kernel⟩
theorem sc_law_marks : FnScope ["one", "found"] ["one"] (defScope s_law_marks) := ⟨rfl, rfl, rfl, by decide +kernel, rfl, by decide +kernel, by decide +kernel⟩
theorem sc_law_above : FnScope ["one", "found"] ["one"] (defScope s_law_above) := ⟨rfl, rfl, rfl, by decide +kernel, rfl, by decide +kernel, by decide +kernel⟩
theorem sc_law_made : FnScope ["way", "x", "y", "found"] ["way", "x", "y"] (defScope s_law_made) := ⟨rfl, rfl, rfl, by decide +kernel, rfl, by decide +kernel, by decide +kernel⟩
theorem sc_law_right : FnScope ["way", "x", "y", "made", "fields", "at", "one", "k", "is_so"] ["way", "x", "y"] (defScope s_law_right) := ⟨rfl, rfl, rfl, by decide +kernel, rfl, by decide +kernel, by decide +kernel⟩
theorem sc_law : FnScope ["script", "m", "some", "turn"] ["script"] (defScope s_law) := ⟨rfl, rfl, rfl, by decide +kernel, rfl, by decide +kernel, by decide +kernel⟩
structure Txt0 (K : PySem.W.Frag) (mg : Str → Option Value) where
  f__law_begun : Addr
  d__law_begun : FuncData
  F__law_begun : Fun K "_law_begun" "_law_begun" s_law_begun f__law_begun d__law_begun
  b__law_begun : Binds K d__law_begun ["script"] []
  g__law_begun : mg "_law_begun" = some (.ref f__law_begun)
  f__law_next : Addr
  d__law_next : FuncData
  F__law_next : Fun K "_law_next" "_law_next" s_law_next f__law_next d__law_next
  b__law_next : Binds K d__law_next ["m", "many"] []
  g__law_next : mg "_law_next" = some (.ref f__law_next)
  f__law_marks : Addr
  d__law_marks : FuncData
  F__law_marks : Fun K "_law_marks" "_law_marks" s_law_marks f__law_marks d__law_marks
  b__law_marks : Binds K d__law_marks ["one"] []
  g__law_marks : mg "_law_marks" = some (.ref f__law_marks)
  f__law_above : Addr
  d__law_above : FuncData
  F__law_above : Fun K "_law_above" "_law_above" s_law_above f__law_above d__law_above
  b__law_above : Binds K d__law_above ["one"] []
  g__law_above : mg "_law_above" = some (.ref f__law_above)
  f__law_made : Addr
  d__law_made : FuncData
  F__law_made : Fun K "_law_made" "_law_made" s_law_made f__law_made d__law_made
  b__law_made : Binds K d__law_made ["way", "x", "y"] []
  g__law_made : mg "_law_made" = some (.ref f__law_made)
  f__law_right : Addr
  d__law_right : FuncData
  F__law_right : Fun K "_law_right" "_law_right" s_law_right f__law_right d__law_right
  b__law_right : Binds K d__law_right ["way", "x", "y"] []
  g__law_right : mg "_law_right" = some (.ref f__law_right)
  f_law : Addr
  d_law : FuncData
  F_law : Fun K "law" "law" s_law f_law d_law
  b_law : Binds K d_law ["script"] []
  g_law : mg "law" = some (.ref f_law)
structure Txt (K : PySem.W.Frag) (mg : Str → Option Value) extends Txt0 K mg where
  z_IndexError : mg "IndexError" = none
  z_KeyError : mg "KeyError" = none
  z_LookupError : mg "LookupError" = none
  z_OverflowError : mg "OverflowError" = none
  z_ValueError : mg "ValueError" = none
  z_enumerate : mg "enumerate" = none
  z_int : mg "int" = none
  z_isinstance : mg "isinstance" = none
  z_len : mg "len" = none
  z_list : mg "list" = none
  z_min : mg "min" = none
  z_range : mg "range" = none
  z_repr : mg "repr" = none
  C_BadCoder : Addr
  fi_BadCoder : Addr
  di_BadCoder : FuncData
  g_BadCoder : mg "BadCoder" = some (.ref C_BadCoder)
  o_BadCoder : OexC K C_BadCoder
  i_BadCoder : PySem.W.findIn K (.ref C_BadCoder) "__init__" = some (some (.ref fi_BadCoder))
  t_BadCoder : PySem.W.typeIn K (.ref fi_BadCoder) = some (.type "function")
  x_BadCoder : XfC K C_BadCoder
  X_BadCoder : ExcC K C_BadCoder
  kb_BadCoder : KBn K di_BadCoder ["self", "part", "number"] 1 ["number", "part"] (fun us ws => us ++ ws.reverse) (fun vs zs => vs ++ zs.reverse)
  kv_BadCoder : kitEach K (.ref C_BadCoder) [.type "ValueError", .type "OverflowError", .type "LookupError", .type "KeyError", .type "IndexError"] [true, false, false, false, false]
  n_BadCoder_part : PySem.W.findIn K (.ref C_BadCoder) "part" = some none
  n_BadCoder_number : PySem.W.findIn K (.ref C_BadCoder) "number" = some none
  Fi_BadCoder : Fun K "__init__" "BadCoder.__init__" si_BadCoder fi_BadCoder di_BadCoder
  bi_BadCoder : Binds K di_BadCoder ["self", "part", "number"] []
  e_BadCoder : PySem.W.exmOne K (.ref C_BadCoder) (.ref C_BadCoder) = some true
  C_BadRow : Addr
  fi_BadRow : Addr
  di_BadRow : FuncData
  g_BadRow : mg "BadRow" = some (.ref C_BadRow)
  o_BadRow : OexC K C_BadRow
  i_BadRow : PySem.W.findIn K (.ref C_BadRow) "__init__" = some (some (.ref fi_BadRow))
  t_BadRow : PySem.W.typeIn K (.ref fi_BadRow) = some (.type "function")
  x_BadRow : XfC K C_BadRow
  X_BadRow : ExcC K C_BadRow
  kb_BadRow : KBn K di_BadRow ["self", "row", "word"] 1 ["word", "row"] (fun us ws => us ++ ws.reverse) (fun vs zs => vs ++ zs.reverse)
  kv_BadRow : kitEach K (.ref C_BadRow) [.type "ValueError", .type "OverflowError", .type "LookupError", .type "KeyError", .type "IndexError"] [true, false, false, false, false]
  n_BadRow_row : PySem.W.findIn K (.ref C_BadRow) "row" = some none
  n_BadRow_word : PySem.W.findIn K (.ref C_BadRow) "word" = some none
  Fi_BadRow : Fun K "__init__" "BadRow.__init__" si_BadRow fi_BadRow di_BadRow
  bi_BadRow : Binds K di_BadRow ["self", "row", "word"] []
  e_BadRow : PySem.W.exmOne K (.ref C_BadRow) (.ref C_BadRow) = some true
  C_BadPaper : Addr
  fi_BadPaper : Addr
  di_BadPaper : FuncData
  g_BadPaper : mg "BadPaper" = some (.ref C_BadPaper)
  o_BadPaper : OexC K C_BadPaper
  i_BadPaper : PySem.W.findIn K (.ref C_BadPaper) "__init__" = some (some (.ref fi_BadPaper))
  t_BadPaper : PySem.W.typeIn K (.ref fi_BadPaper) = some (.type "function")
  x_BadPaper : XfC K C_BadPaper
  X_BadPaper : ExcC K C_BadPaper
  kb_BadPaper : KBn K di_BadPaper ["self", "part", "number"] 1 ["number", "part"] (fun us ws => us ++ ws.reverse) (fun vs zs => vs ++ zs.reverse)
  kv_BadPaper : kitEach K (.ref C_BadPaper) [.type "ValueError", .type "OverflowError", .type "LookupError", .type "KeyError", .type "IndexError"] [true, false, false, false, false]
  n_BadPaper_part : PySem.W.findIn K (.ref C_BadPaper) "part" = some none
  n_BadPaper_number : PySem.W.findIn K (.ref C_BadPaper) "number" = some none
  Fi_BadPaper : Fun K "__init__" "BadPaper.__init__" si_BadPaper fi_BadPaper di_BadPaper
  bi_BadPaper : Binds K di_BadPaper ["self", "part", "number"] []
  e_BadPaper : PySem.W.exmOne K (.ref C_BadPaper) (.ref C_BadPaper) = some true
  C_BadByte : Addr
  fi_BadByte : Addr
  di_BadByte : FuncData
  g_BadByte : mg "BadByte" = some (.ref C_BadByte)
  o_BadByte : OexC K C_BadByte
  i_BadByte : PySem.W.findIn K (.ref C_BadByte) "__init__" = some (some (.ref fi_BadByte))
  t_BadByte : PySem.W.typeIn K (.ref fi_BadByte) = some (.type "function")
  x_BadByte : XfC K C_BadByte
  X_BadByte : ExcC K C_BadByte
  kb_BadByte : KBn K di_BadByte ["self", "number"] 1 ["number"] (fun us ws => us ++ ws.reverse) (fun vs zs => vs ++ zs.reverse)
  kv_BadByte : kitEach K (.ref C_BadByte) [.type "ValueError", .type "OverflowError", .type "LookupError", .type "KeyError", .type "IndexError"] [true, false, false, false, false]
  n_BadByte_number : PySem.W.findIn K (.ref C_BadByte) "number" = some none
  Fi_BadByte : Fun K "__init__" "BadByte.__init__" si_BadByte fi_BadByte di_BadByte
  bi_BadByte : Binds K di_BadByte ["self", "number"] []
  e_BadByte : PySem.W.exmOne K (.ref C_BadByte) (.ref C_BadByte) = some true
  C_OutOfPlace : Addr
  fi_OutOfPlace : Addr
  di_OutOfPlace : FuncData
  g_OutOfPlace : mg "OutOfPlace" = some (.ref C_OutOfPlace)
  o_OutOfPlace : OexC K C_OutOfPlace
  i_OutOfPlace : PySem.W.findIn K (.ref C_OutOfPlace) "__init__" = some (some (.ref fi_OutOfPlace))
  t_OutOfPlace : PySem.W.typeIn K (.ref fi_OutOfPlace) = some (.type "function")
  x_OutOfPlace : XfC K C_OutOfPlace
  X_OutOfPlace : ExcC K C_OutOfPlace
  kb_OutOfPlace : KBn K di_OutOfPlace ["self", "text"] 1 ["text"] (fun us ws => us ++ ws.reverse) (fun vs zs => vs ++ zs.reverse)
  kv_OutOfPlace : kitEach K (.ref C_OutOfPlace) [.type "ValueError", .type "OverflowError", .type "LookupError", .type "KeyError", .type "IndexError"] [true, false, false, false, false]
  Fi_OutOfPlace : Fun K "__init__" "OutOfPlace.__init__" si_OutOfPlace fi_OutOfPlace di_OutOfPlace
  bi_OutOfPlace : Binds K di_OutOfPlace ["self", "text"] []
  e_OutOfPlace : PySem.W.exmOne K (.ref C_OutOfPlace) (.ref C_OutOfPlace) = some true
  C_NoSeam : Addr
  fi_NoSeam : Addr
  di_NoSeam : FuncData
  g_NoSeam : mg "NoSeam" = some (.ref C_NoSeam)
  o_NoSeam : OexC K C_NoSeam
  i_NoSeam : PySem.W.findIn K (.ref C_NoSeam) "__init__" = some (some (.ref fi_NoSeam))
  t_NoSeam : PySem.W.typeIn K (.ref fi_NoSeam) = some (.type "function")
  x_NoSeam : XfC K C_NoSeam
  X_NoSeam : ExcC K C_NoSeam
  kb_NoSeam : KBn K di_NoSeam ["self", "text"] 1 ["text"] (fun us ws => us ++ ws.reverse) (fun vs zs => vs ++ zs.reverse)
  kv_NoSeam : kitEach K (.ref C_NoSeam) [.type "ValueError", .type "OverflowError", .type "LookupError", .type "KeyError", .type "IndexError"] [true, false, false, false, false]
  Fi_NoSeam : Fun K "__init__" "NoSeam.__init__" si_NoSeam fi_NoSeam di_NoSeam
  bi_NoSeam : Binds K di_NoSeam ["self", "text"] []
  e_NoSeam : PySem.W.exmOne K (.ref C_NoSeam) (.ref C_NoSeam) = some true
  C_TooGreat : Addr
  fi_TooGreat : Addr
  di_TooGreat : FuncData
  g_TooGreat : mg "TooGreat" = some (.ref C_TooGreat)
  o_TooGreat : TgC K C_TooGreat
  i_TooGreat : PySem.W.findIn K (.ref C_TooGreat) "__init__" = some (some (.ref fi_TooGreat))
  t_TooGreat : PySem.W.typeIn K (.ref fi_TooGreat) = some (.type "function")
  x_TooGreat : XfC K C_TooGreat
  X_TooGreat : ExcC K C_TooGreat
  kb_TooGreat : KBn K di_TooGreat ["self", "most"] 1 ["most"] (fun us ws => us ++ ws.reverse) (fun vs zs => vs ++ zs.reverse)
  kv_TooGreat : kitEach K (.ref C_TooGreat) [.type "ValueError", .type "OverflowError", .type "LookupError", .type "KeyError", .type "IndexError"] [false, true, false, false, false]
  n_TooGreat_most : PySem.W.findIn K (.ref C_TooGreat) "most" = some none
  Fi_TooGreat : Fun K "__init__" "TooGreat.__init__" si_TooGreat fi_TooGreat di_TooGreat
  bi_TooGreat : Binds K di_TooGreat ["self", "most"] []
  e_TooGreat : PySem.W.exmOne K (.ref C_TooGreat) (.ref C_TooGreat) = some true
  C_Nothing : Addr
  fi_Nothing : Addr
  di_Nothing : FuncData
  g_Nothing : mg "Nothing" = some (.ref C_Nothing)
  o_Nothing : NthC K C_Nothing
  i_Nothing : PySem.W.findIn K (.ref C_Nothing) "__init__" = some (some (.ref fi_Nothing))
  t_Nothing : PySem.W.typeIn K (.ref fi_Nothing) = some (.type "function")
  x_Nothing : XfC K C_Nothing
  X_Nothing : ExcC K C_Nothing
  kb_Nothing : KBn K di_Nothing ["self", "text"] 1 ["text"] (fun us ws => us ++ ws.reverse) (fun vs zs => vs ++ zs.reverse)
  kv_Nothing : kitEach K (.ref C_Nothing) [.type "ValueError", .type "OverflowError", .type "LookupError", .type "KeyError", .type "IndexError"] [false, false, true, false, false]
  Fi_Nothing : Fun K "__init__" "Nothing.__init__" si_Nothing fi_Nothing di_Nothing
  bi_Nothing : Binds K di_Nothing ["self", "text"] []
  e_Nothing : PySem.W.exmOne K (.ref C_Nothing) (.ref C_Nothing) = some true
  e_BadCoder_BadRow : PySem.W.exmOne K (.ref C_BadCoder) (.ref C_BadRow) = some false
  e_BadCoder_BadPaper : PySem.W.exmOne K (.ref C_BadCoder) (.ref C_BadPaper) = some false
  e_BadCoder_BadByte : PySem.W.exmOne K (.ref C_BadCoder) (.ref C_BadByte) = some false
  e_BadCoder_OutOfPlace : PySem.W.exmOne K (.ref C_BadCoder) (.ref C_OutOfPlace) = some false
  e_BadCoder_NoSeam : PySem.W.exmOne K (.ref C_BadCoder) (.ref C_NoSeam) = some false
  e_BadCoder_TooGreat : PySem.W.exmOne K (.ref C_BadCoder) (.ref C_TooGreat) = some false
  e_BadCoder_Nothing : PySem.W.exmOne K (.ref C_BadCoder) (.ref C_Nothing) = some false
  em_BadCoder : exmEach K (.ref C_BadCoder) [.ref C_BadCoder, .ref C_BadRow, .ref C_BadPaper, .ref C_BadByte, .ref C_TooGreat, .ref C_OutOfPlace, .ref C_NoSeam, .ref C_Nothing] [true, false, false, false, false, false, false, false]
  ks_BadCoder : kitEach K (.ref C_BadCoder) [.ref C_BadCoder, .ref C_BadRow, .ref C_BadPaper, .ref C_BadByte, .ref C_TooGreat, .ref C_OutOfPlace, .ref C_NoSeam, .ref C_Nothing] [true, false, false, false, false, false, false, false]
  e_BadRow_BadCoder : PySem.W.exmOne K (.ref C_BadRow) (.ref C_BadCoder) = some false
  e_BadRow_BadPaper : PySem.W.exmOne K (.ref C_BadRow) (.ref C_BadPaper) = some false
  e_BadRow_BadByte : PySem.W.exmOne K (.ref C_BadRow) (.ref C_BadByte) = some false
  e_BadRow_OutOfPlace : PySem.W.exmOne K (.ref C_BadRow) (.ref C_OutOfPlace) = some false
  e_BadRow_NoSeam : PySem.W.exmOne K (.ref C_BadRow) (.ref C_NoSeam) = some false
  e_BadRow_TooGreat : PySem.W.exmOne K (.ref C_BadRow) (.ref C_TooGreat) = some false
  e_BadRow_Nothing : PySem.W.exmOne K (.ref C_BadRow) (.ref C_Nothing) = some false
  em_BadRow : exmEach K (.ref C_BadRow) [.ref C_BadCoder, .ref C_BadRow, .ref C_BadPaper, .ref C_BadByte, .ref C_TooGreat, .ref C_OutOfPlace, .ref C_NoSeam, .ref C_Nothing] [false, true, false, false, false, false, false, false]
  ks_BadRow : kitEach K (.ref C_BadRow) [.ref C_BadCoder, .ref C_BadRow, .ref C_BadPaper, .ref C_BadByte, .ref C_TooGreat, .ref C_OutOfPlace, .ref C_NoSeam, .ref C_Nothing] [false, true, false, false, false, false, false, false]
  e_BadPaper_BadCoder : PySem.W.exmOne K (.ref C_BadPaper) (.ref C_BadCoder) = some false
  e_BadPaper_BadRow : PySem.W.exmOne K (.ref C_BadPaper) (.ref C_BadRow) = some false
  e_BadPaper_BadByte : PySem.W.exmOne K (.ref C_BadPaper) (.ref C_BadByte) = some false
  e_BadPaper_OutOfPlace : PySem.W.exmOne K (.ref C_BadPaper) (.ref C_OutOfPlace) = some false
  e_BadPaper_NoSeam : PySem.W.exmOne K (.ref C_BadPaper) (.ref C_NoSeam) = some false
  e_BadPaper_TooGreat : PySem.W.exmOne K (.ref C_BadPaper) (.ref C_TooGreat) = some false
  e_BadPaper_Nothing : PySem.W.exmOne K (.ref C_BadPaper) (.ref C_Nothing) = some false
  em_BadPaper : exmEach K (.ref C_BadPaper) [.ref C_BadCoder, .ref C_BadRow, .ref C_BadPaper, .ref C_BadByte, .ref C_TooGreat, .ref C_OutOfPlace, .ref C_NoSeam, .ref C_Nothing] [false, false, true, false, false, false, false, false]
  ks_BadPaper : kitEach K (.ref C_BadPaper) [.ref C_BadCoder, .ref C_BadRow, .ref C_BadPaper, .ref C_BadByte, .ref C_TooGreat, .ref C_OutOfPlace, .ref C_NoSeam, .ref C_Nothing] [false, false, true, false, false, false, false, false]
  e_BadByte_BadCoder : PySem.W.exmOne K (.ref C_BadByte) (.ref C_BadCoder) = some false
  e_BadByte_BadRow : PySem.W.exmOne K (.ref C_BadByte) (.ref C_BadRow) = some false
  e_BadByte_BadPaper : PySem.W.exmOne K (.ref C_BadByte) (.ref C_BadPaper) = some false
  e_BadByte_OutOfPlace : PySem.W.exmOne K (.ref C_BadByte) (.ref C_OutOfPlace) = some false
  e_BadByte_NoSeam : PySem.W.exmOne K (.ref C_BadByte) (.ref C_NoSeam) = some false
  e_BadByte_TooGreat : PySem.W.exmOne K (.ref C_BadByte) (.ref C_TooGreat) = some false
  e_BadByte_Nothing : PySem.W.exmOne K (.ref C_BadByte) (.ref C_Nothing) = some false
  em_BadByte : exmEach K (.ref C_BadByte) [.ref C_BadCoder, .ref C_BadRow, .ref C_BadPaper, .ref C_BadByte, .ref C_TooGreat, .ref C_OutOfPlace, .ref C_NoSeam, .ref C_Nothing] [false, false, false, true, false, false, false, false]
  ks_BadByte : kitEach K (.ref C_BadByte) [.ref C_BadCoder, .ref C_BadRow, .ref C_BadPaper, .ref C_BadByte, .ref C_TooGreat, .ref C_OutOfPlace, .ref C_NoSeam, .ref C_Nothing] [false, false, false, true, false, false, false, false]
  e_OutOfPlace_BadCoder : PySem.W.exmOne K (.ref C_OutOfPlace) (.ref C_BadCoder) = some false
  e_OutOfPlace_BadRow : PySem.W.exmOne K (.ref C_OutOfPlace) (.ref C_BadRow) = some false
  e_OutOfPlace_BadPaper : PySem.W.exmOne K (.ref C_OutOfPlace) (.ref C_BadPaper) = some false
  e_OutOfPlace_BadByte : PySem.W.exmOne K (.ref C_OutOfPlace) (.ref C_BadByte) = some false
  e_OutOfPlace_NoSeam : PySem.W.exmOne K (.ref C_OutOfPlace) (.ref C_NoSeam) = some false
  e_OutOfPlace_TooGreat : PySem.W.exmOne K (.ref C_OutOfPlace) (.ref C_TooGreat) = some false
  e_OutOfPlace_Nothing : PySem.W.exmOne K (.ref C_OutOfPlace) (.ref C_Nothing) = some false
  em_OutOfPlace : exmEach K (.ref C_OutOfPlace) [.ref C_BadCoder, .ref C_BadRow, .ref C_BadPaper, .ref C_BadByte, .ref C_TooGreat, .ref C_OutOfPlace, .ref C_NoSeam, .ref C_Nothing] [false, false, false, false, false, true, false, false]
  ks_OutOfPlace : kitEach K (.ref C_OutOfPlace) [.ref C_BadCoder, .ref C_BadRow, .ref C_BadPaper, .ref C_BadByte, .ref C_TooGreat, .ref C_OutOfPlace, .ref C_NoSeam, .ref C_Nothing] [false, false, false, false, false, true, false, false]
  e_NoSeam_BadCoder : PySem.W.exmOne K (.ref C_NoSeam) (.ref C_BadCoder) = some false
  e_NoSeam_BadRow : PySem.W.exmOne K (.ref C_NoSeam) (.ref C_BadRow) = some false
  e_NoSeam_BadPaper : PySem.W.exmOne K (.ref C_NoSeam) (.ref C_BadPaper) = some false
  e_NoSeam_BadByte : PySem.W.exmOne K (.ref C_NoSeam) (.ref C_BadByte) = some false
  e_NoSeam_OutOfPlace : PySem.W.exmOne K (.ref C_NoSeam) (.ref C_OutOfPlace) = some false
  e_NoSeam_TooGreat : PySem.W.exmOne K (.ref C_NoSeam) (.ref C_TooGreat) = some false
  e_NoSeam_Nothing : PySem.W.exmOne K (.ref C_NoSeam) (.ref C_Nothing) = some false
  em_NoSeam : exmEach K (.ref C_NoSeam) [.ref C_BadCoder, .ref C_BadRow, .ref C_BadPaper, .ref C_BadByte, .ref C_TooGreat, .ref C_OutOfPlace, .ref C_NoSeam, .ref C_Nothing] [false, false, false, false, false, false, true, false]
  ks_NoSeam : kitEach K (.ref C_NoSeam) [.ref C_BadCoder, .ref C_BadRow, .ref C_BadPaper, .ref C_BadByte, .ref C_TooGreat, .ref C_OutOfPlace, .ref C_NoSeam, .ref C_Nothing] [false, false, false, false, false, false, true, false]
  e_TooGreat_BadCoder : PySem.W.exmOne K (.ref C_TooGreat) (.ref C_BadCoder) = some false
  e_TooGreat_BadRow : PySem.W.exmOne K (.ref C_TooGreat) (.ref C_BadRow) = some false
  e_TooGreat_BadPaper : PySem.W.exmOne K (.ref C_TooGreat) (.ref C_BadPaper) = some false
  e_TooGreat_BadByte : PySem.W.exmOne K (.ref C_TooGreat) (.ref C_BadByte) = some false
  e_TooGreat_OutOfPlace : PySem.W.exmOne K (.ref C_TooGreat) (.ref C_OutOfPlace) = some false
  e_TooGreat_NoSeam : PySem.W.exmOne K (.ref C_TooGreat) (.ref C_NoSeam) = some false
  e_TooGreat_Nothing : PySem.W.exmOne K (.ref C_TooGreat) (.ref C_Nothing) = some false
  em_TooGreat : exmEach K (.ref C_TooGreat) [.ref C_BadCoder, .ref C_BadRow, .ref C_BadPaper, .ref C_BadByte, .ref C_TooGreat, .ref C_OutOfPlace, .ref C_NoSeam, .ref C_Nothing] [false, false, false, false, true, false, false, false]
  ks_TooGreat : kitEach K (.ref C_TooGreat) [.ref C_BadCoder, .ref C_BadRow, .ref C_BadPaper, .ref C_BadByte, .ref C_TooGreat, .ref C_OutOfPlace, .ref C_NoSeam, .ref C_Nothing] [false, false, false, false, true, false, false, false]
  e_Nothing_BadCoder : PySem.W.exmOne K (.ref C_Nothing) (.ref C_BadCoder) = some false
  e_Nothing_BadRow : PySem.W.exmOne K (.ref C_Nothing) (.ref C_BadRow) = some false
  e_Nothing_BadPaper : PySem.W.exmOne K (.ref C_Nothing) (.ref C_BadPaper) = some false
  e_Nothing_BadByte : PySem.W.exmOne K (.ref C_Nothing) (.ref C_BadByte) = some false
  e_Nothing_OutOfPlace : PySem.W.exmOne K (.ref C_Nothing) (.ref C_OutOfPlace) = some false
  e_Nothing_NoSeam : PySem.W.exmOne K (.ref C_Nothing) (.ref C_NoSeam) = some false
  e_Nothing_TooGreat : PySem.W.exmOne K (.ref C_Nothing) (.ref C_TooGreat) = some false
  em_Nothing : exmEach K (.ref C_Nothing) [.ref C_BadCoder, .ref C_BadRow, .ref C_BadPaper, .ref C_BadByte, .ref C_TooGreat, .ref C_OutOfPlace, .ref C_NoSeam, .ref C_Nothing] [false, false, false, false, false, false, false, true]
  ks_Nothing : kitEach K (.ref C_Nothing) [.ref C_BadCoder, .ref C_BadRow, .ref C_BadPaper, .ref C_BadByte, .ref C_TooGreat, .ref C_OutOfPlace, .ref C_NoSeam, .ref C_Nothing] [false, false, false, false, false, false, false, true]
  vL : PySem.W.findCls K (.type "LookupError") (.type "type") "__init__" = some (.val (.builtin "LookupError.__init__"))
  zL : mg "LookupError" = none
  vV : PySem.W.findCls K (.type "ValueError") (.type "type") "__init__" = some (.val (.builtin "ValueError.__init__"))
  zV : mg "ValueError" = none

end My

/-! the inits of the errors -/
namespace My
open PySem PySem.Spec PyProof.Rows L2
def sp_init0 (K : PySem.W.Frag) (C : Addr) : Sp := fun vs H Q _ => ∃ (a : Addr) (t : Str), vs = [.ref a, .str t] ∧ H a = some (exo a C none) ∧ Q .non H
def sp_init1 (C : Addr) (f : Str) : Sp := fun vs H Q _ => ∃ (a : Addr) (x : V), vs = [.ref a, x] ∧ H a = some (exo a C none) ∧
  ∀ dx, H dx = none → dx ≠ a → Q .non (upd (upd H dx (exd dx [(f, x)])) a (exo a C (some dx)))
def sp_init2 (C : Addr) (f1 f2 : Str) : Sp := fun vs H Q _ => ∃ (a : Addr) (x y : V), vs = [.ref a, x, y] ∧ H a = some (exo a C none) ∧
  ∀ dx, H dx = none → dx ≠ a → Q .non (upd (upd (upd H dx (exd dx [(f1, x)])) a (exo a C (some dx))) dx (exd dx [(f2, y), (f1, x)]))
section
variable {P : Program} {w : World} {K : PySem.W.Frag} {mg : Str → Option Value} {base : Heap}
theorem oki_OutOfPlace (T : Txt K mg) : FnOk P w K mg base CX0 2 T.fi_OutOfPlace T.di_OutOfPlace ["self", "text"] (sp_init0 K T.C_OutOfPlace) := by
  refine T.Fi_OutOfPlace.ok sci_OutOfPlace (fun vs H Q E h => ?_) (fun cdv A outer s H vs Q E hr h => ?_)
  · obtain ⟨a, t, rfl, _⟩ := h
    rfl
  · obtain ⟨a, t, rfl, ha, q⟩ := h
    refine ⟨_, pss_one (ps_expr (pe_veinit (by rfl) T.zV T.vV (pa_cons (pv 0) (pa_cons (pv 1) pa_nil)))), ?_⟩
    exact ⟨_, rfl, _, rfl, a, T.C_OutOfPlace, [.str t], rfl, by show 1 ≤ 1000; decide, T.o_OutOfPlace, ha, q⟩
theorem oki_NoSeam (T : Txt K mg) : FnOk P w K mg base CX0 2 T.fi_NoSeam T.di_NoSeam ["self", "text"] (sp_init0 K T.C_NoSeam) := by
  refine T.Fi_NoSeam.ok sci_NoSeam (fun vs H Q E h => ?_) (fun cdv A outer s H vs Q E hr h => ?_)
  · obtain ⟨a, t, rfl, _⟩ := h
    rfl
  · obtain ⟨a, t, rfl, ha, q⟩ := h
    refine ⟨_, pss_one (ps_expr (pe_veinit (by rfl) T.zV T.vV (pa_cons (pv 0) (pa_cons (pv 1) pa_nil)))), ?_⟩
    exact ⟨_, rfl, _, rfl, a, T.C_NoSeam, [.str t], rfl, by show 1 ≤ 1000; decide, T.o_NoSeam, ha, q⟩
theorem oki_Nothing (T : Txt K mg) : FnOk P w K mg base CX0 2 T.fi_Nothing T.di_Nothing ["self", "text"] (sp_init0 K T.C_Nothing) := by
  refine T.Fi_Nothing.ok sci_Nothing (fun vs H Q E h => ?_) (fun cdv A outer s H vs Q E hr h => ?_)
  · obtain ⟨a, t, rfl, _⟩ := h
    rfl
  · obtain ⟨a, t, rfl, ha, q⟩ := h
    refine ⟨_, pss_one (ps_expr (My.pe_leinit (by rfl) T.zL T.vL (pa_cons (pv 0) (pa_cons (pv 1) pa_nil)))), ?_⟩
    exact ⟨_, rfl, _, rfl, a, T.C_Nothing, [.str t], rfl, by show 1 ≤ 1000; decide, T.o_Nothing, ha, q⟩
theorem oki_BadCoder (T : Txt K mg) : FnOk P w K mg base CX0 2 T.fi_BadCoder T.di_BadCoder ["self", "part", "number"] (sp_init2 T.C_BadCoder "part" "number") := by
  refine T.Fi_BadCoder.ok sci_BadCoder (fun vs H Q E h => ?_) (fun cdv A outer s H vs Q E hr h => ?_)
  · obtain ⟨a, x, y, rfl, _⟩ := h
    rfl
  · obtain ⟨a, x, y, rfl, ha, q⟩ := h
    refine ⟨_, pss_cons (ps_ost (pv 0) (pv 1)) (pss_one (ps_ost (pv 0) (pv 2))), ?_⟩
    refine ⟨_, rfl, _, rfl, a, T.C_BadCoder, rfl, T.o_BadCoder, T.n_BadCoder_part, .inl ⟨ha, fun dx hdx ne => ?_⟩⟩
    refine ⟨_, rfl, _, rfl, a, T.C_BadCoder, rfl, T.o_BadCoder, T.n_BadCoder_number, .inr ⟨dx, _, upd_same, (upd_ne ne).trans upd_same, by show 1 ≤ 900; decide, q dx hdx ne⟩⟩
theorem oki_BadRow (T : Txt K mg) : FnOk P w K mg base CX0 2 T.fi_BadRow T.di_BadRow ["self", "row", "word"] (sp_init2 T.C_BadRow "row" "word") := by
  refine T.Fi_BadRow.ok sci_BadRow (fun vs H Q E h => ?_) (fun cdv A outer s H vs Q E hr h => ?_)
  · obtain ⟨a, x, y, rfl, _⟩ := h
    rfl
  · obtain ⟨a, x, y, rfl, ha, q⟩ := h
    refine ⟨_, pss_cons (ps_ost (pv 0) (pv 1)) (pss_one (ps_ost (pv 0) (pv 2))), ?_⟩
    refine ⟨_, rfl, _, rfl, a, T.C_BadRow, rfl, T.o_BadRow, T.n_BadRow_row, .inl ⟨ha, fun dx hdx ne => ?_⟩⟩
    refine ⟨_, rfl, _, rfl, a, T.C_BadRow, rfl, T.o_BadRow, T.n_BadRow_word, .inr ⟨dx, _, upd_same, (upd_ne ne).trans upd_same, by show 1 ≤ 900; decide, q dx hdx ne⟩⟩
theorem oki_BadPaper (T : Txt K mg) : FnOk P w K mg base CX0 2 T.fi_BadPaper T.di_BadPaper ["self", "part", "number"] (sp_init2 T.C_BadPaper "part" "number") := by
  refine T.Fi_BadPaper.ok sci_BadPaper (fun vs H Q E h => ?_) (fun cdv A outer s H vs Q E hr h => ?_)
  · obtain ⟨a, x, y, rfl, _⟩ := h
    rfl
  · obtain ⟨a, x, y, rfl, ha, q⟩ := h
    refine ⟨_, pss_cons (ps_ost (pv 0) (pv 1)) (pss_one (ps_ost (pv 0) (pv 2))), ?_⟩
    refine ⟨_, rfl, _, rfl, a, T.C_BadPaper, rfl, T.o_BadPaper, T.n_BadPaper_part, .inl ⟨ha, fun dx hdx ne => ?_⟩⟩
    refine ⟨_, rfl, _, rfl, a, T.C_BadPaper, rfl, T.o_BadPaper, T.n_BadPaper_number, .inr ⟨dx, _, upd_same, (upd_ne ne).trans upd_same, by show 1 ≤ 900; decide, q dx hdx ne⟩⟩
theorem oki_BadByte (T : Txt K mg) : FnOk P w K mg base CX0 2 T.fi_BadByte T.di_BadByte ["self", "number"] (sp_init1 T.C_BadByte "number") := by
  refine T.Fi_BadByte.ok sci_BadByte (fun vs H Q E h => ?_) (fun cdv A outer s H vs Q E hr h => ?_)
  · obtain ⟨a, x, rfl, _⟩ := h
    rfl
  · obtain ⟨a, x, rfl, ha, q⟩ := h
    refine ⟨_, pss_one (ps_ost (pv 0) (pv 1)), ?_⟩
    exact ⟨_, rfl, _, rfl, a, T.C_BadByte, rfl, T.o_BadByte, T.n_BadByte_number, .inl ⟨ha, fun dx hdx ne => q dx hdx ne⟩⟩
theorem oki_TooGreat (T : Txt K mg) : FnOk P w K mg base CX0 2 T.fi_TooGreat T.di_TooGreat ["self", "most"] (sp_init1 T.C_TooGreat "most") := by
  refine T.Fi_TooGreat.ok sci_TooGreat (fun vs H Q E h => ?_) (fun cdv A outer s H vs Q E hr h => ?_)
  · obtain ⟨a, x, rfl, _⟩ := h
    rfl
  · obtain ⟨a, x, rfl, ha, q⟩ := h
    refine ⟨_, pss_one (ps_put (pv 0) (pv 1)), ?_⟩
    exact ⟨_, rfl, _, rfl, a, T.C_TooGreat, rfl, T.o_TooGreat, T.n_TooGreat_most, ha, q⟩
end
end My

set_option pp.maxSteps 400
/-! the errors of k01: made, and what they are -/
namespace My
open PySem PySem.Spec PyProof.Rows L2
def E2 (H : Hp) (a C : Addr) (f g : Str) (x y : V) : Prop := ∃ dd, H a = some (exo a C (some dd)) ∧ H dd = some (exd dd [(g, y), (f, x)])
def E1 (H : Hp) (a C : Addr) (f : Str) (x : V) : Prop := ∃ dd, H a = some (exo a C (some dd)) ∧ H dd = some (exd dd [(f, x)])
theorem E2.same {H H' : Hp} {a C : Addr} {f g : Str} {x y : V} (h : E2 H a C f g x y) (s : Same H H') : E2 H' a C f g x y := by
  obtain ⟨dd, h1, h2⟩ := h
  exact ⟨dd, s _ _ h1, s _ _ h2⟩
theorem E1.same {H H' : Hp} {a C : Addr} {f : Str} {x : V} (h : E1 H a C f x) (s : Same H H') : E1 H' a C f x := by
  obtain ⟨dd, h1, h2⟩ := h
  exact ⟨dd, s _ _ h1, s _ _ h2⟩
theorem E2.exv {H : Hp} {a C : Addr} {f g : Str} {x y : V} (h : E2 H a C f g x y) : ∃ d, ExV H a C d := by
  obtain ⟨dd, h1, h2⟩ := h
  exact ⟨some dd, h1, fun d e => by cases e; exact ⟨_, h2⟩⟩
theorem E1.exv {H : Hp} {a C : Addr} {f : Str} {x : V} (h : E1 H a C f x) : ∃ d, ExV H a C d := by
  obtain ⟨dd, h1, h2⟩ := h
  exact ⟨some dd, h1, fun d e => by cases e; exact ⟨_, h2⟩⟩
theorem e0_exv {H : Hp} {a C : Addr} (h : H a = some (exo a C none)) : ∃ d, ExV H a C d := ⟨none, h, fun d e => by cases e⟩
theorem mk2 {H : Hp} {a d C : Addr} {o1 o2 : HO} {f g : Str} {x y : V} (h : H a = none) (hd : upd H a o1 d = none) (n : d ≠ a) :
    Same H (upd (upd (upd (upd H a o1) d o2) a (exo a C (some d))) d (exd d [(g, y), (f, x)])) ∧ E2 (upd (upd (upd (upd H a o1) d o2) a (exo a C (some d))) d (exd d [(g, y), (f, x)])) a C f g x y := by
  have h0 : H d = none := (upd_ne n).symm.trans hd
  refine ⟨fun b u e => ?_, d, ?_, upd_same⟩
  · have n1 := ne_of_none e h
    have n2 := ne_of_none e h0
    rw [upd_ne n2, upd_ne n1, upd_ne n2, upd_ne n1]
    exact e
  · rw [upd_ne (Ne.symm n)]
    exact upd_same
theorem mk1 {H : Hp} {a d C : Addr} {o1 : HO} {f : Str} {x : V} (h : H a = none) (hd : upd H a o1 d = none) (n : d ≠ a) :
    Same H (upd (upd (upd H a o1) d (exd d [(f, x)])) a (exo a C (some d))) ∧ E1 (upd (upd (upd H a o1) d (exd d [(f, x)])) a (exo a C (some d))) a C f x := by
  have h0 : H d = none := (upd_ne n).symm.trans hd
  refine ⟨fun b u e => ?_, d, upd_same, ?_⟩
  · have n1 := ne_of_none e h
    have n2 := ne_of_none e h0
    rw [upd_ne n1, upd_ne n2, upd_ne n1]
    exact e
  · rw [upd_ne n]
    exact upd_same
section
variable {P : Program} {w : World} {K : PySem.W.Frag} {mg : Str → Option Value} {base : Heap}
theorem ifY1 {A B : Prop} {b : Bool} (e : b = true) (h : A) : if b = true then A else B := by
  rw [if_pos e]
  exact h
theorem ifN1 {A B : Prop} {b : Bool} (e : b = false) (h : B) : if b = true then A else B := by
  rw [if_neg (by rw [e]; exact Bool.false_ne_true)]
  exact h
def xcl (T : Txt K mg) : Nat → Addr
  | 0 => T.C_BadCoder
  | 1 => T.C_BadRow
  | 2 => T.C_BadPaper
  | 3 => T.C_BadByte
  | 4 => T.C_OutOfPlace
  | 5 => T.C_NoSeam
  | 6 => T.C_TooGreat
  | _ => T.C_Nothing
theorem xcl_X (T : Txt K mg) : ∀ i, i < 8 → ExcC K (xcl T i)
  | 0, _ => T.X_BadCoder
  | 1, _ => T.X_BadRow
  | 2, _ => T.X_BadPaper
  | 3, _ => T.X_BadByte
  | 4, _ => T.X_OutOfPlace
  | 5, _ => T.X_NoSeam
  | 6, _ => T.X_TooGreat
  | 7, _ => T.X_Nothing
  | n + 8, h => absurd h (by omega)
theorem xcl_k (T : Txt K mg) : ∀ i j, i < 8 → j < 8 → PySem.W.kitOne K (.ref (xcl T i)) (.ref (xcl T j)) = some (decide (j = i))
  | 0, j, _, hj => by
    obtain ⟨h0, h1, h2, h3, h6, h4, h5, h7, _⟩ := T.ks_BadCoder
    match j, hj with
    | 0, _ => exact h0
    | 1, _ => exact h1
    | 2, _ => exact h2
    | 3, _ => exact h3
    | 4, _ => exact h4
    | 5, _ => exact h5
    | 6, _ => exact h6
    | 7, _ => exact h7
    | n + 8, h => exact absurd h (by omega)
  | 1, j, _, hj => by
    obtain ⟨h0, h1, h2, h3, h6, h4, h5, h7, _⟩ := T.ks_BadRow
    match j, hj with
    | 0, _ => exact h0
    | 1, _ => exact h1
    | 2, _ => exact h2
    | 3, _ => exact h3
    | 4, _ => exact h4
    | 5, _ => exact h5
    | 6, _ => exact h6
    | 7, _ => exact h7
    | n + 8, h => exact absurd h (by omega)
  | 2, j, _, hj => by
    obtain ⟨h0, h1, h2, h3, h6, h4, h5, h7, _⟩ := T.ks_BadPaper
    match j, hj with
    | 0, _ => exact h0
    | 1, _ => exact h1
    | 2, _ => exact h2
    | 3, _ => exact h3
    | 4, _ => exact h4
    | 5, _ => exact h5
    | 6, _ => exact h6
    | 7, _ => exact h7
    | n + 8, h => exact absurd h (by omega)
  | 3, j, _, hj => by
    obtain ⟨h0, h1, h2, h3, h6, h4, h5, h7, _⟩ := T.ks_BadByte
    match j, hj with
    | 0, _ => exact h0
    | 1, _ => exact h1
    | 2, _ => exact h2
    | 3, _ => exact h3
    | 4, _ => exact h4
    | 5, _ => exact h5
    | 6, _ => exact h6
    | 7, _ => exact h7
    | n + 8, h => exact absurd h (by omega)
  | 4, j, _, hj => by
    obtain ⟨h0, h1, h2, h3, h6, h4, h5, h7, _⟩ := T.ks_OutOfPlace
    match j, hj with
    | 0, _ => exact h0
    | 1, _ => exact h1
    | 2, _ => exact h2
    | 3, _ => exact h3
    | 4, _ => exact h4
    | 5, _ => exact h5
    | 6, _ => exact h6
    | 7, _ => exact h7
    | n + 8, h => exact absurd h (by omega)
  | 5, j, _, hj => by
    obtain ⟨h0, h1, h2, h3, h6, h4, h5, h7, _⟩ := T.ks_NoSeam
    match j, hj with
    | 0, _ => exact h0
    | 1, _ => exact h1
    | 2, _ => exact h2
    | 3, _ => exact h3
    | 4, _ => exact h4
    | 5, _ => exact h5
    | 6, _ => exact h6
    | 7, _ => exact h7
    | n + 8, h => exact absurd h (by omega)
  | 6, j, _, hj => by
    obtain ⟨h0, h1, h2, h3, h6, h4, h5, h7, _⟩ := T.ks_TooGreat
    match j, hj with
    | 0, _ => exact h0
    | 1, _ => exact h1
    | 2, _ => exact h2
    | 3, _ => exact h3
    | 4, _ => exact h4
    | 5, _ => exact h5
    | 6, _ => exact h6
    | 7, _ => exact h7
    | n + 8, h => exact absurd h (by omega)
  | 7, j, _, hj => by
    obtain ⟨h0, h1, h2, h3, h6, h4, h5, h7, _⟩ := T.ks_Nothing
    match j, hj with
    | 0, _ => exact h0
    | 1, _ => exact h1
    | 2, _ => exact h2
    | 3, _ => exact h3
    | 4, _ => exact h4
    | 5, _ => exact h5
    | 6, _ => exact h6
    | 7, _ => exact h7
    | n + 8, h => exact absurd h (by omega)
  | n + 8, _, h, _ => absurd h (by omega)
theorem xcl_v (T : Txt K mg) : ∀ i, i < 8 → kitEach K (.ref (xcl T i)) [.type "ValueError", .type "OverflowError", .type "LookupError", .type "KeyError", .type "IndexError"] [decide ((i : Int) < 6), decide ((i : Int) = 6), decide ((i : Int) = 7), false, false]
  | 0, _ => T.kv_BadCoder
  | 1, _ => T.kv_BadRow
  | 2, _ => T.kv_BadPaper
  | 3, _ => T.kv_BadByte
  | 4, _ => T.kv_OutOfPlace
  | 5, _ => T.kv_NoSeam
  | 6, _ => T.kv_TooGreat
  | 7, _ => T.kv_Nothing
  | n + 8, h => absurd h (by omega)
def sp_law_marks (T : Txt K mg) : Sp := fun vs H Q _ => ∃ (a : Addr) (i : Nat) (d : Option Addr), vs = [.ref a] ∧ i < 8 ∧ ExV H a (xcl T i) d ∧ ∀ p H', Same H H' → H p = none → H' p = some (.lst ((List.range 8).map fun j => V.bl (decide (j = i)))) → Q (.ref p) H'
theorem exv_same {H H' : Hp} {a D : Addr} {d : Option Addr} (h : ExV H a D d) (s : Same H H') : ExV H' a D d := ⟨s _ _ h.1, fun dd e => by
  obtain ⟨fs, h2⟩ := h.2 dd e
  exact ⟨fs, s _ _ h2⟩⟩
set_option maxHeartbeats 2000000 in
theorem ok_law_marks (T : Txt K mg) : FnOk P w K mg base CX0 2 T.f__law_marks T.d__law_marks ["one"] (sp_law_marks T) := by
  refine T.F__law_marks.ok sc_law_marks (fun vs H Q E h => ?_) (fun cdv A outer s H vs Q E hr h => ?_)
  · obtain ⟨a, i, d, rfl, _⟩ := h
    rfl
  · obtain ⟨a, i, d, rfl, hi, he, q⟩ := h
    have hX := xcl_X T i hi
    refine ⟨_,
(pss_cons (ps_set (i := 1) sc_law_marks.nd rfl (Or.inl rfl) (pe_lst (pa_cons (pe_callB (My.call_isX) (by rfl) T.z_isinstance (by decide +kernel) (pa_cons (pv 0) (pa_cons (pe_glob (v := .ref T.C_BadCoder) (by rfl) T.g_BadCoder rfl) pa_nil))) (pa_cons (pe_callB (My.call_isX) (by rfl) T.z_isinstance (by decide +kernel) (pa_cons (pv 0) (pa_cons (pe_glob (v := .ref T.C_BadRow) (by rfl) T.g_BadRow rfl) pa_nil))) (pa_cons (pe_callB (My.call_isX) (by rfl) T.z_isinstance (by decide +kernel) (pa_cons (pv 0) (pa_cons (pe_glob (v := .ref T.C_BadPaper) (by rfl) T.g_BadPaper rfl) pa_nil))) (pa_cons (pe_callB (My.call_isX) (by rfl) T.z_isinstance (by decide +kernel) (pa_cons (pv 0) (pa_cons (pe_glob (v := .ref T.C_BadByte) (by rfl) T.g_BadByte rfl) pa_nil))) pa_nil))))))
      (pss_cons (ps_set (i := 1) sc_law_marks.nd rfl (Or.inl rfl) (pe_op op_cat (pv 1) (pe_lst (pa_cons (pe_callB (My.call_isX) (by rfl) T.z_isinstance (by decide +kernel) (pa_cons (pv 0) (pa_cons (pe_glob (v := .ref T.C_OutOfPlace) (by rfl) T.g_OutOfPlace rfl) pa_nil))) (pa_cons (pe_callB (My.call_isX) (by rfl) T.z_isinstance (by decide +kernel) (pa_cons (pv 0) (pa_cons (pe_glob (v := .ref T.C_NoSeam) (by rfl) T.g_NoSeam rfl) pa_nil))) pa_nil)))))
      (pss_one (ps_ret (pe_op op_cat (pv 1) (pe_lst (pa_cons (pe_callB (My.call_isX) (by rfl) T.z_isinstance (by decide +kernel) (pa_cons (pv 0) (pa_cons (pe_glob (v := .ref T.C_TooGreat) (by rfl) T.g_TooGreat rfl) pa_nil))) (pa_cons (pe_callB (My.call_isX) (by rfl) T.z_isinstance (by decide +kernel) (pa_cons (pv 0) (pa_cons (pe_glob (v := .ref T.C_Nothing) (by rfl) T.g_Nothing rfl) pa_nil))) pa_nil))))))))
, ?_⟩
    refine ⟨_, rfl, a, _, _, _, .ref (xcl T 0), _, rfl, he, hX, (fun u h => h), xcl_k T i 0 hi (by decide), _, rfl, a, _, _, _, .ref (xcl T 1), _, rfl, he, hX, (fun u h => h), xcl_k T i 1 hi (by decide), _, rfl, a, _, _, _, .ref (xcl T 2), _, rfl, he, hX, (fun u h => h), xcl_k T i 2 hi (by decide), _, rfl, a, _, _, _, .ref (xcl T 3), _, rfl, he, hX, (fun u h => h), xcl_k T i 3 hi (by decide), ?_⟩
    refine ⟨by show 4 ≤ sizeLine; decide, fun p1 h_p1 => ?_⟩
    have s_p1 := same_new (o := .lst [V.bl (decide (0 = i)), V.bl (decide (1 = i)), V.bl (decide (2 = i)), V.bl (decide (3 = i))]) h_p1
    have l_p1 : (upd H p1 (.lst [V.bl (decide (0 = i)), V.bl (decide (1 = i)), V.bl (decide (2 = i)), V.bl (decide (3 = i))])) p1 = some (.lst [V.bl (decide (0 = i)), V.bl (decide (1 = i)), V.bl (decide (2 = i)), V.bl (decide (3 = i))]) := upd_same
    generalize upd H p1 (.lst [V.bl (decide (0 = i)), V.bl (decide (1 = i)), V.bl (decide (2 = i)), V.bl (decide (3 = i))]) = H1 at s_p1 l_p1
    clear h_p1
    have he := exv_same he s_p1
    refine ⟨_, rfl, ?_⟩
    refine ⟨_, rfl, a, _, _, _, .ref (xcl T 4), _, rfl, he, hX, (fun u h => h), xcl_k T i 4 hi (by decide), _, rfl, a, _, _, _, .ref (xcl T 5), _, rfl, he, hX, (fun u h => h), xcl_k T i 5 hi (by decide), ?_⟩
    refine ⟨by show 2 ≤ sizeLine; decide, fun p2 h_p2 => ?_⟩
    have s_p2 := same_new (o := .lst [V.bl (decide (4 = i)), V.bl (decide (5 = i))]) h_p2
    have l_p2 : (upd H1 p2 (.lst [V.bl (decide (4 = i)), V.bl (decide (5 = i))])) p2 = some (.lst [V.bl (decide (4 = i)), V.bl (decide (5 = i))]) := upd_same
    generalize upd H1 p2 (.lst [V.bl (decide (4 = i)), V.bl (decide (5 = i))]) = H2 at s_p2 l_p2
    clear h_p2
    have he := exv_same he s_p2
    refine ⟨p1, p2, _, _, rfl, rfl, s_p2 _ _ l_p1, l_p2, by show 6 ≤ sizeLine; decide, fun p3 hp3 => ?_⟩
    have s3 := same_new (o := .lst ([V.bl (decide (0 = i)), V.bl (decide (1 = i)), V.bl (decide (2 = i)), V.bl (decide (3 = i))] ++ [V.bl (decide (4 = i)), V.bl (decide (5 = i))])) hp3
    have l3 : upd H2 p3 (.lst ([V.bl (decide (0 = i)), V.bl (decide (1 = i)), V.bl (decide (2 = i)), V.bl (decide (3 = i))] ++ [V.bl (decide (4 = i)), V.bl (decide (5 = i))])) p3 = some (.lst ([V.bl (decide (0 = i)), V.bl (decide (1 = i)), V.bl (decide (2 = i)), V.bl (decide (3 = i))] ++ [V.bl (decide (4 = i)), V.bl (decide (5 = i))])) := upd_same
    have he := exv_same he s3
    refine ⟨_, rfl, ?_⟩
    refine ⟨_, rfl, a, _, _, _, .ref (xcl T 6), _, rfl, he, hX, (fun u h => h), xcl_k T i 6 hi (by decide), _, rfl, a, _, _, _, .ref (xcl T 7), _, rfl, he, hX, (fun u h => h), xcl_k T i 7 hi (by decide), by show 2 ≤ sizeLine; decide, fun p4 hp4 => ?_⟩
    have s13 := (s_p1.trans s_p2).trans s3
    have s4 := same_new (o := .lst [V.bl (decide (6 = i)), V.bl (decide (7 = i))]) hp4
    have s14 := s13.trans s4
    refine ⟨p3, p4, _, _, rfl, rfl, s4 _ _ l3, upd_same, by show 8 ≤ sizeLine; decide, fun p5 hp5 => ?_⟩
    exact q p5 _ (s14.trans (same_new hp5)) (s14.free hp5) upd_same
def sp_law_above (T : Txt K mg) : Sp := fun vs H Q _ => ∃ (a : Addr) (i : Nat) (d : Option Addr), vs = [.ref a] ∧ i < 8 ∧ ExV H a (xcl T i) d ∧ ∀ p H', Same H H' → H' p = some (.lst [V.bl (decide ((i : Int) < 6)), V.bl (decide ((i : Int) = 6)), V.bl (decide ((i : Int) = 7)), V.bl false, V.bl false]) → Q (.ref p) H'
set_option maxHeartbeats 2000000 in
theorem ok_law_above (T : Txt K mg) : FnOk P w K mg base CX0 2 T.f__law_above T.d__law_above ["one"] (sp_law_above T) := by
  refine T.F__law_above.ok sc_law_above (fun vs H Q E h => ?_) (fun cdv A outer s H vs Q E hr h => ?_)
  · obtain ⟨a, i, d, rfl, _⟩ := h
    rfl
  · obtain ⟨a, i, d, rfl, hi, he, q⟩ := h
    have hX := xcl_X T i hi
    obtain ⟨v0, v1, v2, v3, v4, _⟩ := xcl_v T i hi
    refine ⟨_,
(pss_cons (ps_set (i := 1) sc_law_above.nd rfl (Or.inl rfl) (pe_lst (pa_cons (pe_callB (My.call_isX) (by rfl) T.z_isinstance (by decide +kernel) (pa_cons (pv 0) (pa_cons (pe_bltn (v := .ty "ValueError") (by rfl) T.z_ValueError (by decide +kernel) rfl) pa_nil))) (pa_cons (pe_callB (My.call_isX) (by rfl) T.z_isinstance (by decide +kernel) (pa_cons (pv 0) (pa_cons (pe_bltn (v := .ty "OverflowError") (by rfl) T.z_OverflowError (by decide +kernel) rfl) pa_nil))) (pa_cons (pe_callB (My.call_isX) (by rfl) T.z_isinstance (by decide +kernel) (pa_cons (pv 0) (pa_cons (pe_bltn (v := .ty "LookupError") (by rfl) T.z_LookupError (by decide +kernel) rfl) pa_nil))) pa_nil)))))
      (pss_one (ps_ret (pe_op op_cat (pv 1) (pe_lst (pa_cons (pe_callB (My.call_isX) (by rfl) T.z_isinstance (by decide +kernel) (pa_cons (pv 0) (pa_cons (pe_bltn (v := .ty "KeyError") (by rfl) T.z_KeyError (by decide +kernel) rfl) pa_nil))) (pa_cons (pe_callB (My.call_isX) (by rfl) T.z_isinstance (by decide +kernel) (pa_cons (pv 0) (pa_cons (pe_bltn (v := .ty "IndexError") (by rfl) T.z_IndexError (by decide +kernel) rfl) pa_nil))) pa_nil)))))))
, ?_⟩
    refine ⟨_, rfl, a, _, _, _, .type "ValueError", _, rfl, he, hX, (fun u h => h), v0, _, rfl, a, _, _, _, .type "OverflowError", _, rfl, he, hX, (fun u h => h), v1, _, rfl, a, _, _, _, .type "LookupError", _, rfl, he, hX, (fun u h => h), v2, ?_⟩
    refine ⟨by show 3 ≤ sizeLine; decide, fun p1 h_p1 => ?_⟩
    have s_p1 := same_new (o := .lst [V.bl (decide ((i : Int) < 6)), V.bl (decide ((i : Int) = 6)), V.bl (decide ((i : Int) = 7))]) h_p1
    have l_p1 : (upd H p1 (.lst [V.bl (decide ((i : Int) < 6)), V.bl (decide ((i : Int) = 6)), V.bl (decide ((i : Int) = 7))])) p1 = some (.lst [V.bl (decide ((i : Int) < 6)), V.bl (decide ((i : Int) = 6)), V.bl (decide ((i : Int) = 7))]) := upd_same
    generalize upd H p1 (.lst [V.bl (decide ((i : Int) < 6)), V.bl (decide ((i : Int) = 6)), V.bl (decide ((i : Int) = 7))]) = H1 at s_p1 l_p1
    clear h_p1
    have he := exv_same he s_p1
    refine ⟨_, rfl, ?_⟩
    refine ⟨_, rfl, a, _, _, _, .type "KeyError", _, rfl, he, hX, (fun u h => h), v3, _, rfl, a, _, _, _, .type "IndexError", _, rfl, he, hX, (fun u h => h), v4, ?_⟩
    refine ⟨by show 2 ≤ sizeLine; decide, fun p2 h_p2 => ?_⟩
    have s_p2 := same_new (o := .lst [V.bl false, V.bl false]) h_p2
    have l_p2 : (upd H1 p2 (.lst [V.bl false, V.bl false])) p2 = some (.lst [V.bl false, V.bl false]) := upd_same
    generalize upd H1 p2 (.lst [V.bl false, V.bl false]) = H2 at s_p2 l_p2
    clear h_p2
    refine ⟨p1, p2, _, _, rfl, rfl, s_p2 _ _ l_p1, l_p2, by show 5 ≤ sizeLine; decide, fun p3 hp3 => ?_⟩
    exact q p3 _ ((s_p1.trans s_p2).trans (same_new hp3)) upd_same
structure Made (T : Txt K mg) (H : Hp) (x y : V) (a0 a1 a2 a3 a4 a5 a6 a7 : Addr) : Prop where
  h0 : E2 H a0 T.C_BadCoder "part" "number" x y
  h1 : E2 H a1 T.C_BadRow "row" "word" x y
  h2 : E2 H a2 T.C_BadPaper "part" "number" x y
  h3 : E1 H a3 T.C_BadByte "number" x
  h4 : H a4 = some (exo a4 T.C_OutOfPlace none)
  h5 : H a5 = some (exo a5 T.C_NoSeam none)
  h6 : E1 H a6 T.C_TooGreat "most" x
  h7 : H a7 = some (exo a7 T.C_Nothing none)
def sp_law_made (T : Txt K mg) : Sp := fun vs H Q _ => ∃ (way : Int) (x y : V), vs = [.int way, x, y] ∧ ∀ p H' a0 a1 a2 a3 a4 a5 a6 a7, Same H H' → H p = none → H' p = some (.lst [V.ref a0, V.ref a1, V.ref a2, V.ref a3, V.ref a4, V.ref a5, V.ref a6, V.ref a7]) → Made T H' x y a0 a1 a2 a3 a4 a5 a6 a7 → Q (.ref p) H'
set_option maxHeartbeats 8000000 in
theorem ok_law_made (T : Txt K mg) : FnOk P w K mg base CX0 4 T.f__law_made T.d__law_made ["way", "x", "y"] (sp_law_made T) := by
  refine T.F__law_made.ok sc_law_made (fun vs H Q E h => ?_) (fun cdv A outer s H vs Q E hr h => ?_)
  · obtain ⟨way, x, y, rfl, _⟩ := h
    rfl
  · obtain ⟨way, x, y, rfl, q⟩ := h
    refine ⟨_,
(pss_cons (ps_if (pt_cmpR op_eq (pv 0) pe_int (nomark _)) (pss_cons (ps_set (i := 3) sc_law_made.nd rfl (Or.inl rfl) (pe_lst (pa_cons (My.pe_mkV (n := 2) (OexC.vc T.o_BadCoder) T.i_BadCoder T.t_BadCoder (oki_BadCoder T) (hr.mono (by decide)) (by rfl) T.g_BadCoder (kbn_of T.bi_BadCoder rfl) pass0 (by decide) (pa_cons (pv 1) (pa_cons (pv 2) pa_nil))) (pa_cons (My.pe_mkV (n := 2) (OexC.vc T.o_BadRow) T.i_BadRow T.t_BadRow (oki_BadRow T) (hr.mono (by decide)) (by rfl) T.g_BadRow (kbn_of T.bi_BadRow rfl) pass0 (by decide) (pa_cons (pv 1) (pa_cons (pv 2) pa_nil))) (pa_cons (My.pe_mkV (n := 2) (OexC.vc T.o_BadPaper) T.i_BadPaper T.t_BadPaper (oki_BadPaper T) (hr.mono (by decide)) (by rfl) T.g_BadPaper (kbn_of T.bi_BadPaper rfl) pass0 (by decide) (pa_cons (pv 1) (pa_cons (pv 2) pa_nil))) (pa_cons (My.pe_mkV (n := 1) (OexC.vc T.o_BadByte) T.i_BadByte T.t_BadByte (oki_BadByte T) (hr.mono (by decide)) (by rfl) T.g_BadByte (kbn_of T.bi_BadByte rfl) pass0 (by decide) (pa_cons (pv 1) pa_nil)) pa_nil))))))
      (pss_one (ps_ret (pe_op op_cat (pv 3) (pe_lst (pa_cons (My.pe_mkV (n := 1) (OexC.vc T.o_OutOfPlace) T.i_OutOfPlace T.t_OutOfPlace (oki_OutOfPlace T) (hr.mono (by decide)) (by rfl) T.g_OutOfPlace (kbn_of T.bi_OutOfPlace rfl) pass0 (by decide) (pa_cons pe_str pa_nil)) (pa_cons (My.pe_mkV (n := 1) (OexC.vc T.o_NoSeam) T.i_NoSeam T.t_NoSeam (oki_NoSeam T) (hr.mono (by decide)) (by rfl) T.g_NoSeam (kbn_of T.bi_NoSeam rfl) pass0 (by decide) (pa_cons pe_str pa_nil)) (pa_cons (My.pe_mkV (n := 1) (TgC.vc T.o_TooGreat) T.i_TooGreat T.t_TooGreat (oki_TooGreat T) (hr.mono (by decide)) (by rfl) T.g_TooGreat (kbn_of T.bi_TooGreat rfl) pass0 (by decide) (pa_cons (pv 1) pa_nil)) (pa_cons (My.pe_mkV (n := 1) (NthC.vc T.o_Nothing) T.i_Nothing T.t_Nothing (oki_Nothing T) (hr.mono (by decide)) (by rfl) T.g_Nothing (kbn_of T.bi_Nothing rfl) pass0 (by decide) (pa_cons pe_str pa_nil)) pa_nil))))))))) pss_nil)
      (pss_cons (ps_set (i := 3) sc_law_made.nd rfl (Or.inl rfl) (pe_lst (pa_cons (My.pe_mkVK (OexC.vc T.o_BadCoder) T.i_BadCoder T.t_BadCoder (oki_BadCoder T) (hr.mono (by decide)) (by rfl) T.g_BadCoder T.kb_BadCoder pass0 (pk_cons (pv 2) (pk_cons (pv 1) pk_nil))) (pa_cons (My.pe_mkVK (OexC.vc T.o_BadRow) T.i_BadRow T.t_BadRow (oki_BadRow T) (hr.mono (by decide)) (by rfl) T.g_BadRow T.kb_BadRow pass0 (pk_cons (pv 2) (pk_cons (pv 1) pk_nil))) (pa_cons (My.pe_mkVK (OexC.vc T.o_BadPaper) T.i_BadPaper T.t_BadPaper (oki_BadPaper T) (hr.mono (by decide)) (by rfl) T.g_BadPaper T.kb_BadPaper pass0 (pk_cons (pv 2) (pk_cons (pv 1) pk_nil))) (pa_cons (My.pe_mkVK (OexC.vc T.o_BadByte) T.i_BadByte T.t_BadByte (oki_BadByte T) (hr.mono (by decide)) (by rfl) T.g_BadByte T.kb_BadByte pass0 (pk_cons (pv 1) pk_nil)) pa_nil))))))
      (pss_one (ps_ret (pe_op op_cat (pv 3) (pe_lst (pa_cons (My.pe_mkVK (OexC.vc T.o_OutOfPlace) T.i_OutOfPlace T.t_OutOfPlace (oki_OutOfPlace T) (hr.mono (by decide)) (by rfl) T.g_OutOfPlace T.kb_OutOfPlace pass0 (pk_cons pe_str pk_nil)) (pa_cons (My.pe_mkVK (OexC.vc T.o_NoSeam) T.i_NoSeam T.t_NoSeam (oki_NoSeam T) (hr.mono (by decide)) (by rfl) T.g_NoSeam T.kb_NoSeam pass0 (pk_cons pe_str pk_nil)) (pa_cons (My.pe_mkVK (TgC.vc T.o_TooGreat) T.i_TooGreat T.t_TooGreat (oki_TooGreat T) (hr.mono (by decide)) (by rfl) T.g_TooGreat T.kb_TooGreat pass0 (pk_cons (pv 1) pk_nil)) (pa_cons (My.pe_mkVK (NthC.vc T.o_Nothing) T.i_Nothing T.t_Nothing (oki_Nothing T) (hr.mono (by decide)) (by rfl) T.g_Nothing T.kb_Nothing pass0 (pk_cons pe_str pk_nil)) pa_nil))))))))))
, ?_⟩
    refine ⟨_, rfl, rfl, _, rfl, ?_⟩
    by_cases e : way = 0
    · refine ifY1 (decide_eq_true (by rw [e])) ?_
      refine ⟨_, rfl, _, rfl, rfl, rfl, fun a0 ha0 => ⟨a0, _, _, rfl, upd_same, fun d0 hd0 hn0 => ⟨rfl, ?_⟩⟩⟩
      obtain ⟨S0, F0⟩ := mk2 (C := T.C_BadCoder) (o2 := exd d0 [("part", x)]) (f := "part") (g := "number") (x := x) (y := y) ha0 hd0 hn0
      generalize upd (upd (upd (upd H a0 (exo a0 T.C_BadCoder none)) d0 (exd d0 [("part", x)])) a0 (exo a0 T.C_BadCoder (some d0))) d0 (exd d0 [("number", y), ("part", x)]) = G0 at S0 F0 ⊢
      clear ha0 hd0 hn0
      refine ⟨_, rfl, _, rfl, rfl, rfl, fun a1 ha1 => ⟨a1, _, _, rfl, upd_same, fun d1 hd1 hn1 => ⟨rfl, ?_⟩⟩⟩
      obtain ⟨S1, F1⟩ := mk2 (C := T.C_BadRow) (o2 := exd d1 [("row", x)]) (f := "row") (g := "word") (x := x) (y := y) ha1 hd1 hn1
      generalize upd (upd (upd (upd G0 a1 (exo a1 T.C_BadRow none)) d1 (exd d1 [("row", x)])) a1 (exo a1 T.C_BadRow (some d1))) d1 (exd d1 [("word", y), ("row", x)]) = G1 at S1 F1 ⊢
      clear ha1 hd1 hn1
      refine ⟨_, rfl, _, rfl, rfl, rfl, fun a2 ha2 => ⟨a2, _, _, rfl, upd_same, fun d2 hd2 hn2 => ⟨rfl, ?_⟩⟩⟩
      obtain ⟨S2, F2⟩ := mk2 (C := T.C_BadPaper) (o2 := exd d2 [("part", x)]) (f := "part") (g := "number") (x := x) (y := y) ha2 hd2 hn2
      generalize upd (upd (upd (upd G1 a2 (exo a2 T.C_BadPaper none)) d2 (exd d2 [("part", x)])) a2 (exo a2 T.C_BadPaper (some d2))) d2 (exd d2 [("number", y), ("part", x)]) = G2 at S2 F2 ⊢
      clear ha2 hd2 hn2
      refine ⟨_, rfl, rfl, rfl, fun a3 ha3 => ⟨a3, _, rfl, upd_same, fun d3 hd3 hn3 => ⟨rfl, ?_⟩⟩⟩
      obtain ⟨S3, F3⟩ := mk1 (C := T.C_BadByte) (f := "number") (x := x) ha3 hd3 hn3
      generalize upd (upd (upd G2 a3 (exo a3 T.C_BadByte none)) d3 (exd d3 [("number", x)])) a3 (exo a3 T.C_BadByte (some d3)) = G3 at S3 F3 ⊢
      clear ha3 hd3 hn3
      refine ⟨by show 4 ≤ sizeLine; decide, fun p1 h_p1 => ?_⟩
      have s_p1 := same_new (o := .lst [V.ref a0, V.ref a1, V.ref a2, V.ref a3]) h_p1
      have l_p1 : (upd G3 p1 (.lst [V.ref a0, V.ref a1, V.ref a2, V.ref a3])) p1 = some (.lst [V.ref a0, V.ref a1, V.ref a2, V.ref a3]) := upd_same
      generalize upd G3 p1 (.lst [V.ref a0, V.ref a1, V.ref a2, V.ref a3]) = G4 at s_p1 l_p1
      clear h_p1
      refine ⟨_, rfl, ?_⟩
      refine ⟨rfl, rfl, fun a4 ha4 => ⟨a4, _, rfl, upd_same, rfl, ?_⟩⟩
      have S4 := same_new (o := exo a4 T.C_OutOfPlace none) ha4
      have F4 : upd G4 a4 (exo a4 T.C_OutOfPlace none) a4 = some (exo a4 T.C_OutOfPlace none) := upd_same
      generalize upd G4 a4 (exo a4 T.C_OutOfPlace none) = G5 at S4 F4
      refine ⟨rfl, rfl, fun a5 ha5 => ⟨a5, _, rfl, upd_same, rfl, ?_⟩⟩
      have S5 := same_new (o := exo a5 T.C_NoSeam none) ha5
      have F5 : upd G5 a5 (exo a5 T.C_NoSeam none) a5 = some (exo a5 T.C_NoSeam none) := upd_same
      generalize upd G5 a5 (exo a5 T.C_NoSeam none) = G6 at S5 F5
      refine ⟨_, rfl, rfl, rfl, fun a6 ha6 => ⟨a6, _, rfl, upd_same, fun d6 hd6 hn6 => ⟨rfl, ?_⟩⟩⟩
      obtain ⟨S6, F6⟩ := mk1 (C := T.C_TooGreat) (f := "most") (x := x) ha6 hd6 hn6
      generalize upd (upd (upd G6 a6 (exo a6 T.C_TooGreat none)) d6 (exd d6 [("most", x)])) a6 (exo a6 T.C_TooGreat (some d6)) = G7 at S6 F6 ⊢
      clear ha6 hd6 hn6
      refine ⟨rfl, rfl, fun a7 ha7 => ⟨a7, _, rfl, upd_same, rfl, ?_⟩⟩
      have S7 := same_new (o := exo a7 T.C_Nothing none) ha7
      have F7 : upd G7 a7 (exo a7 T.C_Nothing none) a7 = some (exo a7 T.C_Nothing none) := upd_same
      generalize upd G7 a7 (exo a7 T.C_Nothing none) = G8 at S7 F7
      refine ⟨by show 4 ≤ sizeLine; decide, fun p2 h_p2 => ?_⟩
      have s_p2 := same_new (o := .lst [V.ref a4, V.ref a5, V.ref a6, V.ref a7]) h_p2
      have l_p2 : (upd G8 p2 (.lst [V.ref a4, V.ref a5, V.ref a6, V.ref a7])) p2 = some (.lst [V.ref a4, V.ref a5, V.ref a6, V.ref a7]) := upd_same
      generalize upd G8 p2 (.lst [V.ref a4, V.ref a5, V.ref a6, V.ref a7]) = G9 at s_p2 l_p2
      clear h_p2
      have L1 := ((((S4.trans S5).trans S6).trans S7).trans s_p2) _ _ l_p1
      refine ⟨p1, p2, _, _, rfl, rfl, L1, l_p2, by show 8 ≤ sizeLine; decide, fun p3 hp3 => ?_⟩
      have z := same_new (o := .lst [V.ref a0, V.ref a1, V.ref a2, V.ref a3, V.ref a4, V.ref a5, V.ref a6, V.ref a7]) hp3
      have sA := (((((((((S0.trans S1).trans S2).trans S3).trans s_p1).trans S4).trans S5).trans S6).trans S7).trans s_p2)
      exact q p3 _ a0 a1 a2 a3 a4 a5 a6 a7 (sA.trans z) (sA.free hp3) upd_same ⟨F0.same (((((((((S1.trans S2).trans S3).trans s_p1).trans S4).trans S5).trans S6).trans S7).trans s_p2).trans z), F1.same ((((((((S2.trans S3).trans s_p1).trans S4).trans S5).trans S6).trans S7).trans s_p2).trans z), F2.same (((((((S3.trans s_p1).trans S4).trans S5).trans S6).trans S7).trans s_p2).trans z), F3.same ((((((s_p1.trans S4).trans S5).trans S6).trans S7).trans s_p2).trans z), ((((S5.trans S6).trans S7).trans s_p2).trans z) _ _ F4, (((S6.trans S7).trans s_p2).trans z) _ _ F5, F6.same ((S7.trans s_p2).trans z), (s_p2.trans z) _ _ F7⟩
    · refine ifN1 (decide_eq_false fun z => e (V.int.inj z)) ?_
      refine ⟨_, rfl, _, rfl, rfl, rfl, fun a0 ha0 => ⟨a0, _, _, rfl, upd_same, fun d0 hd0 hn0 => ⟨rfl, ?_⟩⟩⟩
      obtain ⟨S0, F0⟩ := mk2 (C := T.C_BadCoder) (o2 := exd d0 [("part", x)]) (f := "part") (g := "number") (x := x) (y := y) ha0 hd0 hn0
      generalize upd (upd (upd (upd H a0 (exo a0 T.C_BadCoder none)) d0 (exd d0 [("part", x)])) a0 (exo a0 T.C_BadCoder (some d0))) d0 (exd d0 [("number", y), ("part", x)]) = G0 at S0 F0 ⊢
      clear ha0 hd0 hn0
      refine ⟨_, rfl, _, rfl, rfl, rfl, fun a1 ha1 => ⟨a1, _, _, rfl, upd_same, fun d1 hd1 hn1 => ⟨rfl, ?_⟩⟩⟩
      obtain ⟨S1, F1⟩ := mk2 (C := T.C_BadRow) (o2 := exd d1 [("row", x)]) (f := "row") (g := "word") (x := x) (y := y) ha1 hd1 hn1
      generalize upd (upd (upd (upd G0 a1 (exo a1 T.C_BadRow none)) d1 (exd d1 [("row", x)])) a1 (exo a1 T.C_BadRow (some d1))) d1 (exd d1 [("word", y), ("row", x)]) = G1 at S1 F1 ⊢
      clear ha1 hd1 hn1
      refine ⟨_, rfl, _, rfl, rfl, rfl, fun a2 ha2 => ⟨a2, _, _, rfl, upd_same, fun d2 hd2 hn2 => ⟨rfl, ?_⟩⟩⟩
      obtain ⟨S2, F2⟩ := mk2 (C := T.C_BadPaper) (o2 := exd d2 [("part", x)]) (f := "part") (g := "number") (x := x) (y := y) ha2 hd2 hn2
      generalize upd (upd (upd (upd G1 a2 (exo a2 T.C_BadPaper none)) d2 (exd d2 [("part", x)])) a2 (exo a2 T.C_BadPaper (some d2))) d2 (exd d2 [("number", y), ("part", x)]) = G2 at S2 F2 ⊢
      clear ha2 hd2 hn2
      refine ⟨_, rfl, rfl, rfl, fun a3 ha3 => ⟨a3, _, rfl, upd_same, fun d3 hd3 hn3 => ⟨rfl, ?_⟩⟩⟩
      obtain ⟨S3, F3⟩ := mk1 (C := T.C_BadByte) (f := "number") (x := x) ha3 hd3 hn3
      generalize upd (upd (upd G2 a3 (exo a3 T.C_BadByte none)) d3 (exd d3 [("number", x)])) a3 (exo a3 T.C_BadByte (some d3)) = G3 at S3 F3 ⊢
      clear ha3 hd3 hn3
      refine ⟨by show 4 ≤ sizeLine; decide, fun p1 h_p1 => ?_⟩
      have s_p1 := same_new (o := .lst [V.ref a0, V.ref a1, V.ref a2, V.ref a3]) h_p1
      have l_p1 : (upd G3 p1 (.lst [V.ref a0, V.ref a1, V.ref a2, V.ref a3])) p1 = some (.lst [V.ref a0, V.ref a1, V.ref a2, V.ref a3]) := upd_same
      generalize upd G3 p1 (.lst [V.ref a0, V.ref a1, V.ref a2, V.ref a3]) = G4 at s_p1 l_p1
      clear h_p1
      refine ⟨_, rfl, ?_⟩
      refine ⟨rfl, rfl, fun a4 ha4 => ⟨a4, _, rfl, upd_same, rfl, ?_⟩⟩
      have S4 := same_new (o := exo a4 T.C_OutOfPlace none) ha4
      have F4 : upd G4 a4 (exo a4 T.C_OutOfPlace none) a4 = some (exo a4 T.C_OutOfPlace none) := upd_same
      generalize upd G4 a4 (exo a4 T.C_OutOfPlace none) = G5 at S4 F4
      refine ⟨rfl, rfl, fun a5 ha5 => ⟨a5, _, rfl, upd_same, rfl, ?_⟩⟩
      have S5 := same_new (o := exo a5 T.C_NoSeam none) ha5
      have F5 : upd G5 a5 (exo a5 T.C_NoSeam none) a5 = some (exo a5 T.C_NoSeam none) := upd_same
      generalize upd G5 a5 (exo a5 T.C_NoSeam none) = G6 at S5 F5
      refine ⟨_, rfl, rfl, rfl, fun a6 ha6 => ⟨a6, _, rfl, upd_same, fun d6 hd6 hn6 => ⟨rfl, ?_⟩⟩⟩
      obtain ⟨S6, F6⟩ := mk1 (C := T.C_TooGreat) (f := "most") (x := x) ha6 hd6 hn6
      generalize upd (upd (upd G6 a6 (exo a6 T.C_TooGreat none)) d6 (exd d6 [("most", x)])) a6 (exo a6 T.C_TooGreat (some d6)) = G7 at S6 F6 ⊢
      clear ha6 hd6 hn6
      refine ⟨rfl, rfl, fun a7 ha7 => ⟨a7, _, rfl, upd_same, rfl, ?_⟩⟩
      have S7 := same_new (o := exo a7 T.C_Nothing none) ha7
      have F7 : upd G7 a7 (exo a7 T.C_Nothing none) a7 = some (exo a7 T.C_Nothing none) := upd_same
      generalize upd G7 a7 (exo a7 T.C_Nothing none) = G8 at S7 F7
      refine ⟨by show 4 ≤ sizeLine; decide, fun p2 h_p2 => ?_⟩
      have s_p2 := same_new (o := .lst [V.ref a4, V.ref a5, V.ref a6, V.ref a7]) h_p2
      have l_p2 : (upd G8 p2 (.lst [V.ref a4, V.ref a5, V.ref a6, V.ref a7])) p2 = some (.lst [V.ref a4, V.ref a5, V.ref a6, V.ref a7]) := upd_same
      generalize upd G8 p2 (.lst [V.ref a4, V.ref a5, V.ref a6, V.ref a7]) = G9 at s_p2 l_p2
      clear h_p2
      have L1 := ((((S4.trans S5).trans S6).trans S7).trans s_p2) _ _ l_p1
      refine ⟨p1, p2, _, _, rfl, rfl, L1, l_p2, by show 8 ≤ sizeLine; decide, fun p3 hp3 => ?_⟩
      have z := same_new (o := .lst [V.ref a0, V.ref a1, V.ref a2, V.ref a3, V.ref a4, V.ref a5, V.ref a6, V.ref a7]) hp3
      have sA := (((((((((S0.trans S1).trans S2).trans S3).trans s_p1).trans S4).trans S5).trans S6).trans S7).trans s_p2)
      exact q p3 _ a0 a1 a2 a3 a4 a5 a6 a7 (sA.trans z) (sA.free hp3) upd_same ⟨F0.same (((((((((S1.trans S2).trans S3).trans s_p1).trans S4).trans S5).trans S6).trans S7).trans s_p2).trans z), F1.same ((((((((S2.trans S3).trans s_p1).trans S4).trans S5).trans S6).trans S7).trans s_p2).trans z), F2.same (((((((S3.trans s_p1).trans S4).trans S5).trans S6).trans S7).trans s_p2).trans z), F3.same ((((((s_p1.trans S4).trans S5).trans S6).trans S7).trans s_p2).trans z), ((((S5.trans S6).trans S7).trans s_p2).trans z) _ _ F4, (((S6.trans S7).trans s_p2).trans z) _ _ F5, F6.same ((S7.trans s_p2).trans z), (s_p2.trans z) _ _ F7⟩
end
end My

namespace My
open PySem PySem.Spec PyProof.Rows L2
theorem st_tail {t u : L2.TS} {D : Ends} {σ : L2.St} {H : Hp} (R : L2.St → Hp → Prop) (hR : ∀ σ H, R σ H → u D σ H)
    (h : (∀ σ H, R σ H → u D σ H) → t { D with nx := u D } σ H) : tSeq t u D σ H := h hR
theorem dg_l {H : Hp} {m c l : Addr} {k : Int} (h : H m = some (.dK (dd c l k))) : DGet H m (.str "left") (some (.ref l)) := by
  have e := DGet.k (k := .inr "left") h
  rw [dd_l] at e
  exact e
theorem dg_c {H : Hp} {m c l : Addr} {k : Int} (h : H m = some (.dK (dd c l k))) : DGet H m (.str "cells") (some (.ref c)) := by
  have e := DGet.k (k := .inr "cells") h
  rw [dd_c] at e
  exact e
theorem dg_a {H : Hp} {m c l : Addr} {k : Int} (h : H m = some (.dK (dd c l k))) : DGet H m (.str "at") (some (.int k)) := by
  have e := DGet.k (k := .inr "at") h
  rw [dd_a] at e
  exact e
theorem dp_l {H : Hp} {m c l p : Addr} {k : Int} (h : H m = some (.dK (dd c l k))) : DPut H m (.str "left") (.ref p) (upd H m (.dK (dd c p k))) := by
  have e := DPut.k (k := .inr "left") (v := .ref p) h (by show 3 < sizeLine; decide)
  rw [dd_pl] at e
  exact e
theorem dp_a {H : Hp} {m c l : Addr} {k z : Int} (h : H m = some (.dK (dd c l k))) : DPut H m (.str "at") (.int z) (upd H m (.dK (dd c l z))) := by
  have e := DPut.k (k := .inr "at") (v := .int z) h (by show 3 < sizeLine; decide)
  rw [dd_pa] at e
  exact e
def pis (ns : List Int) : List PyData := ns.map .int
theorem dp_ints {K : PySem.W.Frag} {H : Hp} : ∀ ns : List Int, DpAll K H (ns.map V.int) (pis ns)
  | [] => .nil
  | n :: r => .cons (.int n) (dp_ints r)
theorem lay_ints : ∀ ns : List Int, PyData.canLayAll0 (pis ns) = true ∧ PyData.depthAll (pis ns) = 0
  | [] => ⟨rfl, rfl⟩
  | n :: r => by
    obtain ⟨h1, h2⟩ := lay_ints r
    exact ⟨by show ((PyData.int n).canLay0 && PyData.canLayAll0 (pis r)) = true; rw [h1]; rfl, by show max 0 (PyData.depthAll (pis r)) = 0; rw [h2]; rfl⟩
theorem shaped_ints (ns : List Int) : SeqAt.shaped (.list (pis ns)) = true := by
  obtain ⟨h1, h2⟩ := lay_ints ns
  show (PyData.canLayAll0 (pis ns) && decide (PyData.depthAll (pis ns) + 1 ≤ 64)) = true
  rw [h1, h2]
  rfl
theorem eqv_nil (ns : List Int) : PyData.eqv (.list (pis ns)) (.list []) = ns.isEmpty := by
  cases ns <;> rfl
section
variable {P : Program} {w : World} {K : PySem.W.Frag} {mg : Str → Option Value} {base : Heap}
theorem ixN_nat {n j : Nat} (h : j < n) : ixN n (j : Int) = some j := by
  unfold ixN
  rw [if_pos (by omega), if_pos (by omega)]
  simp
def sp_law_next : Sp := fun vs H Q _ => ∃ (m c l : Addr) (n : Nat) (many : Int), vs = [.ref m, .int many] ∧ 0 < many ∧ many < 2 ^ 100 ∧ Dr H m c l (n + 1) ∧
  ∀ (r : Int) (l' : Addr) (H' : Hp), 0 ≤ r → r < many → Kp m l H l' H' → Dr H' m c l' n → Q (.int r) H'
theorem ok_law_next (T : Txt K mg) : FnOk P w K mg base CX0 2 T.f__law_next T.d__law_next ["m", "many"] sp_law_next := by
  refine T.F__law_next.ok sc_law_next (fun vs H Q E h => ?_) (fun cdv A outer s H vs Q E hr h => ?_)
  · obtain ⟨m, c, l, n, many, rfl, _⟩ := h
    rfl
  · obtain ⟨m, c, l, n, many, rfl, p1, p2, D, q⟩ := h
    have hu := hu_of hr
    refine ⟨_,
(pss_cons (ps_while PassesOwn.never (PW.pt (pw_and (pt_cmpR (op_neD hr.units) (pe_dget hu (pv 0) pe_str (fun _ _ => rfl)) (pe_lst pa_nil) (nomark _)) (pw_and1 (pt_cmpR op_eq (pe_ix ix_list (pe_dget hu (pv 0) pe_str (fun _ _ => rfl)) pe_int (fun _ _ => rfl)) pe_int (nomark _))))) (pss_one (ps_dput hu (pv 0) pe_str (pe_slice sl_list (pe_dget hu (pv 0) pe_str (fun _ _ => rfl)) (po_some pe_int) po_none) rfl)))
      (pss_cons (ps_if (pt_cmpR (op_neD hr.units) (pe_dget hu (pv 0) pe_str (fun _ _ => rfl)) (pe_lst pa_nil) (nomark _)) (pss_cons (ps_set (i := 2) sc_law_next.nd rfl (Or.inl rfl) (pe_callTy call_int1 (by rfl) T.z_int (by decide +kernel) (pa_cons (pe_ix ix_list (pe_dget hu (pv 0) pe_str (fun _ _ => rfl)) pe_int (fun _ _ => rfl)) pa_nil)))
      (pss_cons (ps_asg (pe_op op_fdivW (pv 2) (pv 1)) (pg_sub (pe_dget hu (pv 0) pe_str (fun _ _ => rfl)) pe_int set_list))
      (pss_one (ps_ret (pe_op op_modN (pv 2) (pv 1)))))) pss_nil)
      (pss_cons (ps_set (i := 3) sc_law_next.nd rfl (Or.inl rfl) (pe_op op_add (pe_dget hu (pv 0) pe_str (fun _ _ => rfl)) pe_int))
      (pss_cons (ps_dput hu (pv 0) pe_str (pv 3) rfl)
      (pss_cons (ps_set (i := 4) sc_law_next.nd rfl (Or.inl rfl) (pe_ifExp (pt_cmpR (op_neD hr.units) (pe_dget hu (pv 0) pe_str (fun _ _ => rfl)) (pe_lst pa_nil) (nomark _)) (pe_ix ix_list (pe_dget hu (pv 0) pe_str (fun _ _ => rfl)) (pe_op op_modN (pe_callTy call_int1 (by rfl) T.z_int (by decide +kernel) (pa_cons (pv 3) pa_nil)) (pe_callB (call_len_seq) (by rfl) T.z_len (by decide +kernel) (pa_cons (pe_dget hu (pv 0) pe_str (fun _ _ => rfl)) pa_nil))) (fun _ _ => rfl)) pe_int))
      (pss_cons (ps_set (i := 5) sc_law_next.nd rfl (Or.inl rfl) (pe_op op_mul (pe_callTy call_int1 (by rfl) T.z_int (by decide +kernel) (pa_cons (pe_op op_add (pe_op op_add (pe_op op_modN (pe_callTy call_int1 (by rfl) T.z_int (by decide +kernel) (pa_cons (pv 4) pa_nil)) pe_int) (pe_op op_mul pe_int (pv 3))) (pe_op op_mul (pe_op op_mul pe_int (pv 3)) (pv 3))) pa_nil)) pe_int))
      (pss_cons (ps_set (i := 5) sc_law_next.nd rfl (Or.inl rfl) (pe_op op_mul (pe_callTy call_int1 (by rfl) T.z_int (by decide +kernel) (pa_cons (pe_op op_add (pe_op op_modN (pe_callTy call_int1 (by rfl) T.z_int (by decide +kernel) (pa_cons (pv 5) pa_nil)) pe_int) (pe_op op_mul pe_int (pv 3))) pa_nil)) pe_int))
      (pss_one (ps_ret (pe_op op_modN (pe_callTy call_int1 (by rfl) T.z_int (by decide +kernel) (pa_cons (pe_op op_fdivN (pe_op op_modN (pe_callTy call_int1 (by rfl) T.z_int (by decide +kernel) (pa_cons (pv 5) pa_nil)) pe_int) pe_int) pa_nil)) (pv 1)))))))))))
, ?_⟩
    refine st_tail (fun σ H' => ∃ (l' : Addr), σ = [some (.ref m), some (.int many), none, none, none, none] ∧ Kp m l H l' H' ∧ Dr H' m c l' (n + 1)) ?_ fun tail => ?_
    · rintro σ H1 ⟨l1, rfl, kp, D1⟩
      obtain ⟨cs, ls, k, h1, h2, h3, ncl, lc, ll, pos, k0, kn⟩ := D1.ex
      have nml : m ≠ l1 := ne_of h1 h3 nofun
      have nmc : m ≠ c := ne_of h1 h2 nofun
      -- if m['left'] != []
      refine ⟨_, rfl, m, .ref l1, rfl, dg_l h1, Nat.zero_le _, fun p hp => ?_⟩
      have g1 := same_new (o := .lst []) hp _ _ h1
      have g2 := same_new (o := .lst []) hp _ _ h2
      have g3 := same_new (o := .lst []) hp _ _ h3
      refine ⟨.list (pis ls), .list [], .lst (SqL.of g3) (dp_ints ls), .lst (SqL.of upd_same) .nil, shaped_ints ls, by rfl, _, rfl, ?_⟩
      rw [eqv_nil]
      have kp2 : Kp m l H l1 (upd H1 p (.lst [])) := kp.trans (Kp.new hp)
      have D2 : Dr (upd H1 p (.lst [])) m c l1 (n + 1) := D1.new hp
      cases ls with
      | cons x r =>
        refine iteT ?_
        have x0 : 0 ≤ x := pos x List.mem_cons_self
        refine ⟨_, rfl, m, .ref l1, rfl, dg_l g1, l1, _, 0, .int x, rfl, rfl, SqL.of g3, atI_nat (j := 0) rfl, .inl ⟨x, rfl, ?_⟩⟩
        -- m['left'][0] = rest // many
        refine ⟨_, rfl, _, rfl, x, many, rfl, rfl, wide_div (b := 100) p1 (by omega) (by decide) (by decide), _, rfl, m, .ref l1, rfl, dg_l g1, l1, _, 0, 0, rfl, rfl, g3, ixN_nat (j := 0) (by simp), ?_⟩
        refine ⟨_, rfl, _, rfl, x, many, rfl, rfl, by omega, ?_⟩
        show Q (.int (x.fmod many)) (upd (upd H1 p (.lst [])) l1 (.lst (((x / many) :: r).map V.int)))
        rw [Int.fmod_eq_emod_of_nonneg x (by omega)]
        refine q _ l1 _ (Int.emod_nonneg _ (by omega)) (Int.emod_lt_of_pos _ p1) ⟨fun b o hb n1 n2 => ?_, kp2.nw, fun b hb => ?_⟩ ⟨cs, (x / many) :: r, k, ?_, ?_, ?_, ncl, lc, ll, ?_, k0, by omega⟩
        · have e := kp2.st b o hb n1 n2
          rw [upd_ne (kp2.off hb n2)]
          exact e
        · refine kp2.dm b ?_
          unfold upd at hb ⊢
          split at hb
          · cases hb
          · exact hb
        · rw [upd_ne nml]; exact g1
        · rw [upd_ne ncl]; exact g2
        · exact upd_same
        · intro y hy
          rcases List.mem_cons.mp hy with e | e
          · rw [e]; exact Int.ediv_nonneg x0 (by omega)
          · exact pos y (List.mem_cons_of_mem _ e)
      | nil =>
        refine iteF ?_
        refine ⟨_, rfl, m, .int k, rfl, dg_a g1, _, _, rfl, rfl, _, rfl, _, rfl, m, _, rfl, dp_a g1, ?_⟩
        have a1 : (upd (upd H1 p (.lst [])) m (.dK (dd c l1 (k + 1)))) m = some (.dK (dd c l1 (k + 1))) := upd_same
        have a2 := (upd_ne (H := upd H1 p (.lst [])) (o := .dK (dd c l1 (k + 1))) nmc.symm).trans g2
        have a3 := (upd_ne (H := upd H1 p (.lst [])) (o := .dK (dd c l1 (k + 1))) nml.symm).trans g3
        have kp3 : Kp m l H l1 (upd (upd H1 p (.lst [])) m (.dK (dd c l1 (k + 1)))) := ⟨fun b o hb n1 n2 => (upd_ne n1).trans (kp2.st b o hb n1 n2), kp2.nw, fun b hb => kp2.dm b (by
          unfold upd at hb ⊢
          split at hb
          · cases hb
          · exact hb)⟩
        have D3 : Dr (upd (upd H1 p (.lst [])) m (.dK (dd c l1 (k + 1)))) m c l1 n := ⟨cs, [], k + 1, a1, a2, a3, ncl, lc, ll, pos, by omega, by omega⟩
        generalize upd (upd H1 p (.lst [])) m (.dK (dd c l1 (k + 1))) = H3 at a1 a2 a3 kp3 D3
        -- cell
        dsimp only
        refine st_tail (fun σ H' => ∃ (z : Int), σ = [some (.ref m), some (.int many), none, some (.int (k + 1)), some (.int z), none] ∧ Kp m l H l1 H' ∧ Dr H' m c l1 n) ?_ fun tail => ?_
        · rintro σ H4 ⟨z, rfl, kp4, D4⟩
          have kb : k + 1 ≤ 1000000 := by omega
          refine ⟨_, rfl, .inl ⟨z, rfl, _, _, rfl, rfl, (show (2147483629 : Int) ≠ 0 by decide), _, rfl, _, _, rfl, rfl, .inl ⟨by decide, by decide⟩, _, _, rfl, rfl, _, rfl, _, _, rfl, rfl, .inl ⟨by decide, by decide⟩,
            _, rfl, _, _, rfl, rfl, .inl ⟨by show -(2 ^ 64) < 19 * (k + 1); omega, by show 19 * (k + 1) < 2 ^ 64; omega⟩, _, _, rfl, rfl, .inl ⟨_, rfl, _, _, rfl, rfl, .inr ⟨by decide, by decide⟩, ?_⟩⟩⟩
          refine ⟨_, rfl, .inl ⟨_, rfl, _, _, rfl, rfl, (show (2147483647 : Int) ≠ 0 by decide), _, rfl, _, _, rfl, rfl, .inl ⟨by decide, by decide⟩, _, _, rfl, rfl, .inl ⟨_, rfl, _, _, rfl, rfl, .inr ⟨by decide, by decide⟩, ?_⟩⟩⟩
          refine ⟨_, rfl, .inl ⟨_, rfl, _, _, rfl, rfl, (show (2147483587 : Int) ≠ 0 by decide), _, _, rfl, rfl, ⟨by decide, by decide⟩, .inl ⟨_, rfl, _, rfl, _, _, rfl, rfl, by omega, ?_⟩⟩⟩
          refine q _ l1 _ ?_ ?_ kp4 D4
          · rw [Int.fmod_eq_emod_of_nonneg _ (by omega)]
            exact Int.emod_nonneg _ (by omega)
          · rw [Int.fmod_eq_emod_of_nonneg _ (by omega)]
            exact Int.emod_lt_of_pos _ p1
        refine ⟨_, rfl, m, .ref c, rfl, dg_c a1, Nat.zero_le _, fun p' hp' => ?_⟩
        have b1 := same_new (o := .lst []) hp' _ _ a1
        have b2 := same_new (o := .lst []) hp' _ _ a2
        refine ⟨.list (pis cs), .list [], .lst (SqL.of b2) (dp_ints cs), .lst (SqL.of upd_same) .nil, shaped_ints cs, by rfl, _, rfl, ?_⟩
        rw [eqv_nil]
        have kp4 : Kp m l H l1 (upd H3 p' (.lst [])) := kp3.trans (Kp.new hp')
        have D4 : Dr (upd H3 p' (.lst [])) m c l1 n := D3.new hp'
        cases cs with
        | nil =>
          refine iteF ?_
          exact tail _ _ ⟨3, rfl, kp4, D4⟩
        | cons y r =>
          refine iteT ?_
          obtain ⟨j, z, hj⟩ : ∃ (j : Nat) (z : Int), (k + 1).fmod (((y :: r).map V.int).length : Int) = (j : Int) ∧ ((y :: r).map V.int)[j]? = some (.int z) := by
            have hl : (0 : Int) < (((y :: r).map V.int).length : Int) := by
              show (0 : Int) < (((r.map V.int).length + 1 : Nat) : Int)
              omega
            rw [Int.fmod_eq_emod_of_nonneg _ (by omega)]
            have e1 := Int.emod_nonneg (k + 1) (b := (((y :: r).map V.int).length : Int)) (by omega)
            have e2 := Int.emod_lt_of_pos (k + 1) hl
            have hj : ((k + 1) % (((y :: r).map V.int).length : Int)).toNat < (y :: r).length := by
              have : ((y :: r).map V.int).length = (y :: r).length := List.length_map ..
              omega
            refine ⟨((k + 1) % (((y :: r).map V.int).length : Int)).toNat, (y :: r)[((k + 1) % (((y :: r).map V.int).length : Int)).toNat], by omega, ?_⟩
            rw [List.getElem?_map, List.getElem?_eq_getElem hj]
            rfl
          refine ⟨_, rfl, m, .ref c, rfl, dg_c b1, _, rfl, .inl ⟨_, rfl, _, rfl, m, .ref c, rfl, dg_c b1, c, _, rfl, .inl (SqL.of b2), _, _, rfl, rfl, by show (((y :: r).map V.int).length : Int) ≠ 0; simp; omega, c, _, _, .int z, rfl, rfl, SqL.of b2, ?_, ?_⟩⟩
          · show atI _ ((k + 1).fmod (((y :: r).map V.int).length : Int)) = some _
            rw [hj.1]
            exact atI_nat hj.2
          exact tail _ _ ⟨z, rfl, kp4, D4⟩
    -- the loop
    refine ⟨fun cnt σ H' => ∃ (l' : Addr) (cs ls : List Int) (k : Int), σ = [some (.ref m), some (.int many), none, none, none, none] ∧ Kp m l H l' H' ∧ ls.length = cnt ∧
      H' m = some (.dK (dd c l' k)) ∧ H' c = some (.lst (cs.map V.int)) ∧ H' l' = some (.lst (ls.map V.int)) ∧ c ≠ l' ∧
      cs.length ≤ 63 ∧ ls.length ≤ 63 ∧ (∀ x ∈ ls, 0 ≤ x) ∧ 0 ≤ k ∧ k + ((n + 1 : Nat) : Int) ≤ 1000000, ?_, ?_⟩
    · obtain ⟨cs, ls, k, r⟩ := D.ex
      exact ⟨ls.length, l, cs, ls, k, rfl, Kp.refl m l H, rfl, r⟩
    rintro cnt σ H1 ⟨l1, cs, ls, k, rfl, kp, hcnt, h1, h2, h3, ncl, lc, ll, pos, k0, kn⟩
    have nml : m ≠ l1 := ne_of h1 h3 nofun
    have nmc : m ≠ c := ne_of h1 h2 nofun
    refine ⟨_, rfl, m, .ref l1, rfl, dg_l h1, Nat.zero_le _, fun p hp => ?_⟩
    have g1 := same_new (o := .lst []) hp _ _ h1
    have g2 := same_new (o := .lst []) hp _ _ h2
    have g3 := same_new (o := .lst []) hp _ _ h3
    have kp2 : Kp m l H l1 (upd H1 p (.lst [])) := kp.trans (Kp.new hp)
    have D2 : Dr (upd H1 p (.lst [])) m c l1 (n + 1) := ⟨cs, ls, k, g1, g2, g3, ncl, lc, ll, pos, k0, kn⟩
    refine ⟨.list (pis ls), .list [], .lst (SqL.of g3) (dp_ints ls), .lst (SqL.of upd_same) .nil, shaped_ints ls, by rfl, _, rfl, ?_⟩
    rw [eqv_nil]
    cases ls with
    | nil =>
      refine iteF ?_
      refine iteF ?_
      exact tail _ _ ⟨l1, rfl, kp2, D2⟩
    | cons x r =>
      refine iteT ?_
      refine ⟨_, rfl, m, .ref l1, rfl, dg_l g1, l1, _, 0, .int x, rfl, rfl, SqL.of g3, atI_nat (j := 0) rfl, rfl, _, rfl, ?_⟩
      refine ite2 (fun e => ?_) (fun e => tail _ _ ⟨l1, rfl, kp2, D2⟩)
      generalize upd H1 p (.lst []) = H3 at g1 g2 g3 kp2 D2
      refine ⟨_, fun σ' H' hN => hN, ?_⟩
      refine ⟨_, rfl, m, .ref l1, rfl, dg_l g1, 1, rfl, l1, _, rfl, SqL.of g3, fun p2 hp2 => ⟨_, rfl, m, _, rfl, dp_l (same_new hp2 _ _ g1), ?_⟩⟩
      have np1 : p2 ≠ m := (ne_of_none g1 hp2).symm
      have np2 : p2 ≠ c := (ne_of_none g2 hp2).symm
      refine ⟨r.length, by rw [← hcnt]; simp, p2, cs, r, k, rfl, ⟨fun b o hb q1 q2 => ?_, ?_, fun b hb => ?_⟩, rfl, upd_same, (upd_ne nmc.symm).trans ((upd_ne np2.symm).trans g2), (upd_ne np1).trans ?_, np2.symm, lc, by simp at ll ⊢; omega, fun y hy => pos y (List.mem_cons_of_mem _ hy), k0, kn⟩
      · have e := kp2.st b o hb q1 q2
        rw [upd_ne q1, upd_ne (ne_of_none e hp2)]
        exact e
      · exact .inr (kp2.dm _ hp2)
      · refine kp2.dm b ?_
        unfold upd at hb
        split at hb
        · cases hb
        · split at hb
          · cases hb
          · exact hb
      · rw [upd_same]
        unfold cutV
        rw [HT.sIx_none, show HT.sIx ((x :: r).map V.int).length 0 (some 1) = min 1 ((x :: r).map V.int).length from HT.sIx_nat _ 0 1, show min 1 ((x :: r).map V.int).length = 1 by simp]
        show some (HO.lst (List.take (((x :: r).map V.int).length - 1) (r.map V.int))) = _
        rw [List.take_of_length_le (by simp)]
def sp_law_begun (K : PySem.W.Frag) : Sp := fun vs H Q _ => ∃ (a : Addr) (ns : List Int), vs = [.ref a] ∧ SqL K H a (ns.map V.int) ∧ ns.length ≤ 63 ∧
  ∀ (m c l : Addr) (H' : Hp), Same H H' → H m = none → H c = none → H l = none → Dr H' m c l 900000 → Q (.ref m) H'
theorem ok_law_begun (T : Txt K mg) : FnOk P w K mg base CX0 2 T.f__law_begun T.d__law_begun ["script"] (sp_law_begun K) := by
  refine T.F__law_begun.ok sc_law_begun (fun vs H Q E h => ?_) (fun cdv A outer s H vs Q E hr h => ?_)
  · obtain ⟨a, ns, rfl, _⟩ := h
    rfl
  · obtain ⟨a, ns, rfl, hS, hl, q⟩ := h
    have hu := hu_of hr
    refine ⟨_,
(pss_one (ps_ret (pe_disp (pps_cons pe_str (pe_callTy call_list_of (by rfl) T.z_list (by decide +kernel) (pa_cons (pv 0) pa_nil)) (pps_cons pe_str (pe_lc (own := [("cell", 1)]) rfl sc_law_begun.nd (pi_list (pv 0)) (blkOk_by (own := [("cell", 1)]) (N := ["script", "cell"]) (sc := defScope s_law_begun) (by decide +kernel)) (fun _ _ _ _ _ => (pg_name (i := 1) sc_law_begun.nd rfl (Or.inl rfl))) (fun _ _ _ _ _ => pts_one (pt_cmpR op_ge (pv 1) (pe_op op_pow pe_int pe_int) (nomark _))) (fun _ _ _ _ _ => (pv 1))) (pps_cons pe_str pe_int pps_nil))) (by rfl) (by rfl) (fun z => by cases z) (by decide))))
, ?_⟩
    intro p hp
    have s1 : Same H (upd H p (.dK [])) := same_new hp
    refine ⟨.ref a, rfl, a, _, rfl, .inl (s1.seq hS), fun c hc => ?_⟩
    have s2 := s1.trans (same_new (o := .lst (ns.map V.int)) hc)
    have ncp : p ≠ c := fun e => by rw [← e, upd_same] at hc; cases hc
    have e1 : upd (upd H p (.dK [])) c (.lst (ns.map V.int)) p = some (.dK []) := (upd_ne ncp).trans upd_same
    have e2 : upd (upd H p (.dK [])) c (.lst (ns.map V.int)) c = some (.lst (ns.map V.int)) := upd_same
    have hc0 : H c = none := s1.free hc
    generalize upd (upd H p (.dK [])) c (.lst (ns.map V.int)) = H1 at s2 e1 e2
    refine ⟨.ref a, rfl, a, rfl, ⟨_, s2.seq hS⟩, fun l hD => ?_⟩
    have nlp : p ≠ l := ne_of_none e1 hD
    have nlc : c ≠ l := ne_of_none e2 hD
    have hl0 : H l = none := s2.free hD
    refine lc_list (K := K) (a := a) (xs := ns.map V.int) (fun i H' => ∃ ls : List Int, ls.length ≤ i ∧ (∀ x ∈ ls, 0 ≤ x) ∧ H' = upd H1 l (.lst (ls.map V.int))) ⟨[], by simp, by simp, rfl⟩ ?_ ?_ ?_
    · rintro i H' _ ⟨ls, _, _, rfl⟩
      exact (same_new hD).seq (s2.seq hS)
    · rintro i x H' hx ⟨ls, h1, h2, rfl⟩
      obtain ⟨z, rfl⟩ : ∃ z, x = V.int z := by
        rw [List.getElem?_map] at hx
        cases e : ns[i]? with
        | none => rw [e] at hx; cases hx
        | some z => rw [e] at hx; exact ⟨z, (Option.some.inj hx).symm⟩
      have hi : i < 63 := by
        have := (List.getElem?_eq_some_iff.mp hx).1
        rw [List.length_map] at this
        omega
      refine ⟨rfl, _, rfl, 10, 18, rfl, rfl, ⟨by decide, by decide, by decide⟩, z, 1000000000000000000, rfl, rfl, _, rfl, ?_⟩
      refine ite2 (fun e => ?_) (fun e => ⟨ls, by omega, h2, rfl⟩)
      refine ⟨.int z, rfl, _, upd_same, ?_, ls ++ [z], ?_, ?_, ?_⟩
      · rw [List.length_map]; exact small1000 (by omega)
      · simp; omega
      · intro y hy
        rcases List.mem_append.mp hy with k | k
        · exact h2 y k
        · rw [List.mem_singleton.mp k]
          have := of_decide_eq_true e
          omega
      · rw [upd_upd, List.map_append]
        rfl
    · rintro H' ⟨ls, h1, h2, rfl⟩
      refine ⟨(upd_ne nlp).trans e1, [(Sum.inr "cells", V.ref c), (Sum.inr "left", V.ref l), (Sum.inr "at", V.int 0)], rfl, by show 3 ≤ 15; decide, ?_⟩
      rw [dd_mk]
      refine q p c l _ (fun b o hb => ?_) hp hc0 hl0 ⟨ns, ls, 0, upd_same, ?_, ?_, nlc, hl, by rw [List.length_map] at h1; omega, h2, by decide, by decide⟩
      · rw [upd_ne (ne_of_none hb hp), upd_ne (ne_of_none hb hl0)]
        exact s2 _ _ hb
      · rw [upd_ne ncp.symm, upd_ne nlc]; exact e2
      · rw [upd_ne nlp.symm, upd_same]
end
end My

set_option pp.maxSteps 500
/-! the law of k01 -/
namespace My
open PySem PySem.Spec PyProof.Rows L2
theorem textFrom_le {n : Nat} : ∀ (ts : List Str) (k : Nat) (acc : Str), (∀ t ∈ ts, t.length ≤ n) → (textFrom k acc ts).length ≤ acc.length + ts.length * (n + 2)
  | [], k, acc, _ => by show acc.length ≤ _; omega
  | t :: ts, k, acc, h => by
    have ht := h t List.mem_cons_self
    have hr := textFrom_le ts (k + 1) (acc ++ (if k > 0 then ", " else "" : String) ++ t) fun e he => h e (List.mem_cons_of_mem _ he)
    show (textFrom (k + 1) (acc ++ (if k > 0 then ", " else "" : String) ++ t) ts).length ≤ _
    have e : (((if k > 0 then ", " else "" : String) : Str)).length ≤ 2 := by split <;> decide
    rw [strLen_append, strLen_append] at hr
    rw [List.length_cons, Nat.succ_mul]
    omega
theorem shown_all {n : Nat} : ∀ {ds : List PyData}, (∀ d ∈ ds, d.shown.length ≤ n) → ∀ t ∈ PyData.shownAll ds, t.length ≤ n
  | [], _, _, ht => by cases ht
  | d :: r, h, t, ht => by
    rcases List.mem_cons.mp (show t ∈ d.shown :: PyData.shownAll r from ht) with e | e
    · rw [e]; exact h d List.mem_cons_self
    · exact shown_all (fun e he => h e (List.mem_cons_of_mem _ he)) t e
theorem upd_tup {K : PySem.W.Frag} {H : Hp} {p : Addr} {xs : List V} : SqT K (upd H p (.tup xs)) p xs := .inl (.inl upd_same)
theorem same_put {H H' : Hp} {p : Addr} {o : HO} (s : Same H H') (h : H p = none) : Same H (upd H' p o) := fun b u e => by
  rw [upd_ne (ne_of_none e h)]
  exact s b u e
def hide (m l : Addr) (H : Hp) : Hp := fun b => if b = m ∨ b = l then none else H b
theorem hide_same {m l : Addr} {H H' : Hp} (s : Same H H') : Same (hide m l H) (hide m l H') := fun b o h => by
  unfold hide at h ⊢
  by_cases e : b = m ∨ b = l
  · rw [if_pos e] at h
    cases h
  · rw [if_neg e] at h ⊢
    exact s _ _ h
theorem hide_at {m c l n p : Addr} {H : Hp} {o : HO} (D : Dr H m c l n) (h : H p = none) : hide m l (upd H p o) p = some o := by
  obtain ⟨cs, ls, k, h1, h2, h3, r⟩ := D.ex
  unfold hide
  rw [if_neg (fun e => by
    rcases e with e | e
    · rw [e, h1] at h; cases h
    · rw [e, h3] at h; cases h)]
  exact upd_same
theorem hide_kp {m l l' : Addr} {H H' : Hp} (k : Kp m l H l' H') : Same (hide m l H) H' := fun b o h => by
  unfold hide at h
  by_cases e : b = m ∨ b = l
  · rw [if_pos e] at h
    cases h
  · rw [if_neg e] at h
    exact k.st b o h (fun z => e (.inl z)) (fun z => e (.inr z))
theorem hide_sub {m l : Addr} {H : Hp} : Same (hide m l H) H := fun b o h => by
  unfold hide at h
  by_cases e : b = m ∨ b = l
  · rw [if_pos e] at h
    cases h
  · rw [if_neg e] at h
    exact h
theorem hide_step {m l l' : Addr} {H H' : Hp} (k : Kp m l H l' H') : Same (hide m l H) (hide m l' H') := fun b o h => by
  have h1 : H b = some o := hide_sub b o h
  have h2 := hide_kp k b o h
  unfold hide at h ⊢
  by_cases e : b = m ∨ b = l
  · rw [if_pos e] at h
    cases h
  · rw [if_neg (fun z => by
      rcases z with z | z
      · exact e (.inl z)
      · rcases k.nw with y | y
        · exact e (.inr (z.trans y))
        · rw [z, y] at h1
          cases h1)]
    exact h2

/-- a small thing -/
structure Sv (d : PyData) : Prop where
  sh : d.showable = true
  dp : d.depth ≤ 4
  le : d.shown.length ≤ 100
theorem sv_all : ∀ {ds : List PyData}, (∀ d ∈ ds, Sv d) → PyData.showableAll ds = true ∧ PyData.depthAll ds ≤ 4 ∧ (PyData.shownAll ds).length = ds.length
  | [], _ => ⟨rfl, Nat.zero_le _, rfl⟩
  | d :: r, h => by
    obtain ⟨h1, h3, h5⟩ := sv_all fun e he => h e (List.mem_cons_of_mem d he)
    have hd := h d List.mem_cons_self
    refine ⟨?_, ?_, ?_⟩
    · show (d.showable && PyData.showableAll r) = true
      rw [hd.sh, h1]
      rfl
    · show max d.depth (PyData.depthAll r) ≤ 4
      exact Nat.max_le.mpr ⟨hd.dp, h3⟩
    · show (PyData.shownAll r).length + 1 = r.length + 1
      rw [h5]
theorem sv_list {ds : List PyData} (h : ∀ d ∈ ds, Sv d) (hl : ds.length ≤ 8) : (PyData.list ds).showable = true ∧ (PyData.list ds).depth ≤ 60 ∧ (PyData.list ds).shown.length ≤ sizeLine := by
  obtain ⟨h1, h3, h5⟩ := sv_all h
  refine ⟨h1, ?_, ?_⟩
  · show PyData.depthAll ds + 1 ≤ 60
    omega
  · show (listText (PyData.shownAll ds)).length ≤ sizeLine
    unfold listText
    rw [strLen_append]
    have e1 : ((("[" : String) : Str)).length = 1 := rfl
    have e2 : ((("]" : String) : Str)).length = 1 := rfl
    have := textFrom_le (n := 100) (PyData.shownAll ds) 0 "[" (shown_all fun d hd => (h d hd).le)
    rw [h5] at this
    have h9 : (1000000 : Nat) ≤ sizeLine := by decide
    omega
def ds8 (x y : PyData) : List PyData := [x, y, x, y, x, y, x, x]
theorem sv_8 {x y : PyData} (hx : Sv x) (hy : Sv y) : ∀ d ∈ ds8 x y, Sv d := fun d hd => by
  unfold ds8 at hd
  simp only [List.mem_cons, List.not_mem_nil, or_false] at hd
  rcases hd with rfl | rfl | rfl | rfl | rfl | rfl | rfl | rfl <;> assumption
section
variable {P : Program} {w : World} {K : PySem.W.Frag} {mg : Str → Option Value} {base : Heap}
theorem eqv_i (j : Int) : PyData.eqv (.list [.int j]) (.list [.int j]) = true := by
  simp [PyData.eqv, PyData.eqvAll]
theorem eqv_b (a b c : Bool) : PyData.eqv (.list [.bool a, .bool b, .bool c, .bool false, .bool false]) (.list [.bool a, .bool b, .bool c, .bool false, .bool false]) = true := by
  cases a <;> cases b <;> cases c <;> decide +kernel
theorem ev_8 {H : Hp} {x y : V} {dx dy : PyData} (hx : Ev K H x dx) (hy : Ev K H y dy) : EvAll K H [x, y, x, y, x, y, x, x] (ds8 dx dy) := .cons hx (.cons hy (.cons hx (.cons hy (.cons hx (.cons hy (.cons hx (.cons hx .nil)))))))
theorem made_at {T : Txt K mg} {H : Hp} {x y : V} {a0 a1 a2 a3 a4 a5 a6 a7 : Addr} (M : Made T H x y a0 a1 a2 a3 a4 a5 a6 a7) : ∀ (j : Nat) (v : V), [V.ref a0, V.ref a1, V.ref a2, V.ref a3, V.ref a4, V.ref a5, V.ref a6, V.ref a7][j]? = some v → j < 8 ∧ ∃ (a : Addr) (d : Option Addr), v = .ref a ∧ ExV H a (xcl T j) d
  | 0, _, h => by
    cases h
    obtain ⟨d, hd⟩ := M.h0.exv
    exact ⟨by decide, a0, d, rfl, hd⟩
  | 1, _, h => by
    cases h
    obtain ⟨d, hd⟩ := M.h1.exv
    exact ⟨by decide, a1, d, rfl, hd⟩
  | 2, _, h => by
    cases h
    obtain ⟨d, hd⟩ := M.h2.exv
    exact ⟨by decide, a2, d, rfl, hd⟩
  | 3, _, h => by
    cases h
    obtain ⟨d, hd⟩ := M.h3.exv
    exact ⟨by decide, a3, d, rfl, hd⟩
  | 4, _, h => by
    cases h
    obtain ⟨d, hd⟩ := (e0_exv M.h4)
    exact ⟨by decide, a4, d, rfl, hd⟩
  | 5, _, h => by
    cases h
    obtain ⟨d, hd⟩ := (e0_exv M.h5)
    exact ⟨by decide, a5, d, rfl, hd⟩
  | 6, _, h => by
    cases h
    obtain ⟨d, hd⟩ := M.h6.exv
    exact ⟨by decide, a6, d, rfl, hd⟩
  | 7, _, h => by
    cases h
    obtain ⟨d, hd⟩ := (e0_exv M.h7)
    exact ⟨by decide, a7, d, rfl, hd⟩
  | n + 8, _, h => by simp at h
def sp_law_right (K : PySem.W.Frag) : Sp := fun vs H Q _ => ∃ (way : Int) (x y : V) (dx dy : PyData), vs = [.int way, x, y] ∧ Ev K H x dx ∧ Ev K H y dy ∧ Sv dx ∧ Sv dy ∧ ∀ H', Same H H' → Q (.bl true) H'
set_option maxHeartbeats 8000000 in
theorem ok_law_right (T : Txt K mg) : FnG P w K mg base 6 T.f__law_right T.d__law_right ["way", "x", "y"] (sp_law_right K) := by
  refine okG T.F__law_right sc_law_right (fun vs H Q E h => ?_) (fun cdv A outer s H vs Q E hgd hr h => ?_)
  · obtain ⟨way, x, y, dx, dy, rfl, _⟩ := h
    rfl
  · obtain ⟨way, x, y, dx, dy, rfl, hx, hy, sx, sy, q⟩ := h
    obtain ⟨g1, g2, g3⟩ := sv_list (sv_8 sx sy) (Nat.le_refl _)
    refine ⟨_,
(pss_cons (ps_set (i := 3) sc_law_right.nd rfl (Or.inl rfl) (pe_call (ok_law_made T) (hr.mono (by decide)) (by rfl) T.g__law_made T.F__law_made.kp T.b__law_made .nil pass0 (pa_cons (pv 0) (pa_cons (pv 1) (pa_cons (pv 2) pa_nil)))))
      (pss_cons (ps_set (i := 4) sc_law_right.nd rfl (Or.inl rfl) (pe_lst (pa_cons (My.pe_xfX (pe_ix ix_list (pv 3) pe_int (fun _ _ => rfl))) (pa_cons (My.pe_xfX (pe_ix ix_list (pv 3) pe_int (fun _ _ => rfl))) (pa_cons (My.pe_xfX (pe_ix ix_list (pv 3) pe_int (fun _ _ => rfl))) (pa_cons (My.pe_xfX (pe_ix ix_list (pv 3) pe_int (fun _ _ => rfl))) (pa_cons (My.pe_xfX (pe_ix ix_list (pv 3) pe_int (fun _ _ => rfl))) (pa_cons (My.pe_xfX (pe_ix ix_list (pv 3) pe_int (fun _ _ => rfl))) pa_nil))))))))
      (pss_cons (ps_if (pt_cmpR op_ne (pe_callB ((My.call_reprE (K := K) hgd hr.units)) (by rfl) T.z_repr (by decide +kernel) (pa_cons (pe_op My.op_catB (pv 4) (pe_lst (pa_cons (My.pe_xfX (pe_ix ix_list (pv 3) pe_int (fun _ _ => rfl))) (pa_cons (My.pe_xfX (pe_ix ix_list (pv 3) pe_int (fun _ _ => rfl))) pa_nil)))) pa_nil)) (pe_callB ((My.call_reprE (K := K) hgd hr.units)) (by rfl) T.z_repr (by decide +kernel) (pa_cons (My.pe_lstE (pa_cons (pv 1) (pa_cons (pv 2) (pa_cons (pv 1) (pa_cons (pv 2) (pa_cons (pv 1) (pa_cons (pv 2) (pa_cons (pv 1) (pa_cons (pv 1) pa_nil))))))))) pa_nil)) (nomark _)) (pss_one (ps_ret pe_bl)) pss_nil)
      (pss_cons (ps_for PassesOwn.never rfl (pi_enum (by rfl) T.z_enumerate (pa_cons (pv 3) pa_nil)) (pg_tup (by rfl) (pgs_cons (pg_name (i := 5) sc_law_right.nd rfl (Or.inl rfl)) (pgs_cons (pg_name (i := 6) sc_law_right.nd rfl (Or.inl rfl)) pgs_nil))) (pss_cons (ps_if (pt_cmpR (op_neD hr.units) (pe_lc (own := [("k", 7), ("is_so", 8)]) rfl sc_law_right.nd (pi_enum (by rfl) T.z_enumerate (pa_cons (pe_call (ok_law_marks T) (hr.mono (by decide)) (by rfl) T.g__law_marks T.F__law_marks.kp T.b__law_marks .nil pass0 (pa_cons (pv 6) pa_nil)) pa_nil)) (blkOk_by (own := [("k", 7), ("is_so", 8)]) (N := ["way", "x", "y", "made", "fields", "at", "one", "k", "is_so"]) (sc := defScope s_law_right) (by decide +kernel)) (fun _ _ _ _ _ => (My.pg_tupK (K := K) (n := 2) rfl (pgs_cons (pg_name (i := 7) sc_law_right.nd rfl (Or.inl rfl)) (pgs_cons (pg_name (i := 8) sc_law_right.nd rfl (Or.inl rfl)) pgs_nil)))) (fun _ _ _ _ _ => pts_one (pt_val (pv 8))) (fun _ _ _ _ _ => (pv 7))) (pe_lst (pa_cons (pv 5) pa_nil)) (nomark _)) (pss_one (ps_ret pe_bl)) pss_nil)
      (pss_one (ps_if (pt_cmpR (op_neD hr.units) (pe_call (ok_law_above T) (hr.mono (by decide)) (by rfl) T.g__law_above T.F__law_above.kp T.b__law_above .nil pass0 (pa_cons (pv 6) pa_nil)) (pe_lst (pa_cons (pe_cmpR op_lt (pv 5) pe_int (nomark _)) (pa_cons (pe_cmpR op_eq (pv 5) pe_int (nomark _)) (pa_cons (pe_cmpR op_eq (pv 5) pe_int (nomark _)) (pa_cons pe_bl (pa_cons pe_bl pa_nil)))))) (nomark _)) (pss_one (ps_ret pe_bl)) pss_nil))))
      (pss_one (ps_ret pe_bl))))))
, ?_⟩
    refine ⟨_, rfl, _, rfl, _, rfl, way, x, y, rfl, fun p H1 a0 a1 a2 a3 a4 a5 a6 a7 s1 hp hL M => ?_⟩
    have xv := made_at M
    obtain ⟨⟨d0, e0, f0⟩, ⟨d1, e1, f1⟩, ⟨d2, e2, f2⟩, ⟨d3, e3, f3⟩, _, _, ⟨d6, e6, f6⟩, _⟩ := M
    refine ⟨_, rfl, p, _, 0, V.ref a0, rfl, rfl, SqL.of hL, atI_nat (j := 0) rfl, a0, T.C_BadCoder, d0, _, x, rfl, e0, f0, T.x_BadCoder, T.n_BadCoder_part, rfl, _, rfl, p, _, 0, V.ref a0, rfl, rfl, SqL.of hL, atI_nat (j := 0) rfl, a0, T.C_BadCoder, d0, _, y, rfl, e0, f0, T.x_BadCoder, T.n_BadCoder_number, rfl, _, rfl, p, _, 1, V.ref a1, rfl, rfl, SqL.of hL, atI_nat (j := 1) rfl, a1, T.C_BadRow, d1, _, x, rfl, e1, f1, T.x_BadRow, T.n_BadRow_row, rfl, _, rfl, p, _, 1, V.ref a1, rfl, rfl, SqL.of hL, atI_nat (j := 1) rfl, a1, T.C_BadRow, d1, _, y, rfl, e1, f1, T.x_BadRow, T.n_BadRow_word, rfl, _, rfl, p, _, 2, V.ref a2, rfl, rfl, SqL.of hL, atI_nat (j := 2) rfl, a2, T.C_BadPaper, d2, _, x, rfl, e2, f2, T.x_BadPaper, T.n_BadPaper_part, rfl, _, rfl, p, _, 2, V.ref a2, rfl, rfl, SqL.of hL, atI_nat (j := 2) rfl, a2, T.C_BadPaper, d2, _, y, rfl, e2, f2, T.x_BadPaper, T.n_BadPaper_number, rfl, ?_⟩
    refine ⟨by show 6 ≤ sizeLine; decide, fun q1 h_q1 => ?_⟩
    have s_q1 := same_new (o := .lst [x, y, x, y, x, y]) h_q1
    have l_q1 : (upd H1 q1 (.lst [x, y, x, y, x, y])) q1 = some (.lst [x, y, x, y, x, y]) := upd_same
    generalize upd H1 q1 (.lst [x, y, x, y, x, y]) = H2 at s_q1 l_q1
    clear h_q1
    have s2 := s_q1
    have hL2 := s2 _ _ hL
    refine ⟨_, rfl, _, rfl, p, _, 3, V.ref a3, rfl, rfl, SqL.of hL2, atI_nat (j := 3) rfl, a3, T.C_BadByte, d3, _, x, rfl, s2 _ _ e3, s2 _ _ f3, T.x_BadByte, T.n_BadByte_number, rfl, _, rfl, p, _, 6, V.ref a6, rfl, rfl, SqL.of hL2, atI_nat (j := 6) rfl, a6, T.C_TooGreat, d6, _, x, rfl, s2 _ _ e6, s2 _ _ f6, T.x_TooGreat, T.n_TooGreat_most, rfl, ?_⟩
    refine ⟨by show 2 ≤ sizeLine; decide, fun q2 h_q2 => ?_⟩
    have s_q2 := same_new (o := .lst [x, x]) h_q2
    have l_q2 : (upd H2 q2 (.lst [x, x])) q2 = some (.lst [x, x]) := upd_same
    generalize upd H2 q2 (.lst [x, x]) = H3 at s_q2 l_q2
    clear h_q2
    refine ⟨q1, q2, _, _, rfl, rfl, s_q2 _ _ l_q1, l_q2, by show 8 ≤ sizeLine; decide, fun q3 hq3 hm3 => ?_⟩
    have s3 := same_new (o := .lst ([x, y, x, y, x, y] ++ [x, x])) hq3
    have l3 : upd H3 q3 (.lst ([x, y, x, y, x, y] ++ [x, x])) q3 = some (.lst ([x, y, x, y, x, y] ++ [x, x])) := upd_same
    have s13 := (s_q1.trans s_q2).trans s3
    have hx3 := Ev.same (s1.trans s13) hx
    have hy3 := Ev.same (s1.trans s13) hy
    refine ⟨q3, _, ds8 dx dy, rfl, l3, hm3, ev_8 hx3 hy3, g1, g2, g3, ?_⟩
    refine ⟨_, rfl, _, rfl, _, rfl, _, rfl, _, rfl, _, rfl, _, rfl, _, rfl, by show 8 ≤ sizeLine; decide, fun q4 hq4 hm4 => ?_⟩
    have s4 := same_new (o := .lst [x, y, x, y, x, y, x, x]) hq4
    have s14 := s13.trans s4
    refine ⟨q4, _, ds8 dx dy, rfl, upd_same, hm4, ev_8 (Ev.same s4 hx3) (Ev.same s4 hy3), g1, g2, g3, ⟨rfl, _, rfl, iteNS rfl ?_⟩⟩
    have hL4 := s14 _ _ hL
    refine ⟨_, rfl, p, _, rfl, SqL.of hL4, ?_⟩
    refine for_it (walk_enum (K := K) (a := p) (xs := [V.ref a0, V.ref a1, V.ref a2, V.ref a3, V.ref a4, V.ref a5, V.ref a6, V.ref a7])) (fun j σ H' => ∃ (z5 z6 z7 z8 : Option V), σ = [some (.int way), some x, some y, some (.ref p), some (.ref q1), z5, z6, z7, z8] ∧ Same H1 H') ⟨_, _, _, _, rfl, s14⟩ ?_ ?_ ?_
    · rintro j σ H' _ ⟨_, _, _, _, _, s⟩
      exact SqL.of (s _ _ hL)
    · rintro j xv' σ H5 H6 hj ⟨z5, z6, z7, z8, rfl, s5⟩ ⟨T0, w1, w2, rfl, hT0, rfl, hw1, hw2⟩
      cases hw1
      obtain ⟨hj8, a, d, rfl, hexv⟩ := xv j w2 hw2
      have s6 := same_new (o := .tup [.int (j : Nat), .ref a]) hT0
      refine ⟨T0, _, rfl, upd_tup, rfl, _, _, rfl, _, _, rfl, rfl, ?_⟩
      have s16 := s5.trans s6
      generalize upd H5 T0 (.tup [.int (j : Nat), .ref a]) = H6 at s6 s16
      refine ⟨_, rfl, a, j, d, rfl, hj8, exv_same hexv s16, fun pm H7 s7 hpm hm => ?_⟩
      refine ⟨pm, _, rfl, SqL.of hm, fun D hD => ?_⟩
      refine lc_it (walk_enum (K := K) (a := pm) (xs := (List.range 8).map fun k => V.bl (decide (k = j)))) (fun n H' => H' D = some (.lst (if n ≤ j then [] else [V.int (j : Int)])) ∧ Same H7 H') ⟨by rw [if_pos (Nat.zero_le _)]; exact upd_same, same_new hD⟩ ?_ ?_ ?_
      · rintro n H' _ ⟨_, s⟩
        exact SqL.of (s _ _ hm)
      · rintro n v9 H8 H9 hn ⟨hD8, s8⟩ ⟨T1, u1, u2, rfl, hT1, rfl, hu1, hu2⟩
        cases hu1
        have hn8 : n < 8 := by
          rw [List.length_map, List.length_range] at hn
          exact hn
        have hu2 : ((List.range 8).map fun k => V.bl (decide (k = j)))[n]? = some u2 := hu2
        rw [List.getElem?_map, List.getElem?_range hn8] at hu2
        cases hu2
        have s9 := same_new (o := .tup [V.int (n : Nat), .bl (decide (n = j))]) hT1
        refine ⟨T1, _, rfl, upd_tup, rfl, _, _, rfl, _, _, rfl, rfl, ?_⟩
        have hD9 := s9 _ _ hD8
        have s79 := s8.trans s9
        generalize upd H8 T1 (.tup [V.int (n : Nat), .bl (decide (n = j))]) = H9 at hD9 s79
        refine ⟨rfl, _, rfl, _, rfl, ?_⟩
        by_cases hnj : n = j
        · subst hnj
          refine ifY1 (decide_eq_true rfl) ?_
          rw [if_pos (Nat.le_refl _)] at hD9
          refine ⟨_, rfl, _, hD9, by decide, ?_, same_put s79 hD⟩
          rw [if_neg (by omega)]
          exact upd_same
        · refine ifN1 (decide_eq_false hnj) ⟨?_, s79⟩
          by_cases h : n ≤ j
          · rw [if_pos h] at hD9
            rw [if_pos (by omega)]
            exact hD9
          · rw [if_neg h] at hD9
            rw [if_neg (by omega)]
            exact hD9
      · rintro H8 ⟨hD8, s8⟩
        rw [List.length_map, List.length_range, if_neg (by omega)] at hD8
        refine ⟨_, rfl, by show 1 ≤ sizeLine; decide, fun q5 hq5 => ?_⟩
        have s9 := same_new (o := .lst [V.int (j : Int)]) hq5
        refine ⟨.list [.int (j : Int)], .list [.int (j : Int)], .lst (SqL.of (s9 _ _ hD8)) (.cons (.int _) .nil), .lst (SqL.of upd_same) (.cons (.int _) .nil), rfl, rfl, _, rfl, ifN1 (by rw [eqv_i]; rfl) ?_⟩
        have s19 := ((s16.trans s7).trans s8).trans s9
        generalize upd H8 q5 (.lst [V.int (j : Int)]) = H9 at s19
        refine ⟨_, rfl, a, j, d, rfl, hj8, exv_same hexv s19, fun pa H10 s10 hpa => ?_⟩
        refine ⟨_, rfl, _, _, rfl, rfl, _, rfl, rfl, _, rfl, rfl, by show 5 ≤ sizeLine; decide, fun q6 hq6 => ?_⟩
        have e6 : decide (V.int (j : Int) = V.int 6) = decide ((j : Int) = 6) := by simp
        have e7 : decide (V.int (j : Int) = V.int 7) = decide ((j : Int) = 7) := by simp
        have s11 := same_new (o := .lst [V.bl (decide ((j : Int) < 6)), V.bl (decide (V.int (j : Int) = V.int 6)), V.bl (decide (V.int (j : Int) = V.int 7)), V.bl false, V.bl false]) hq6
        refine ⟨.list [.bool (decide ((j : Int) < 6)), .bool (decide ((j : Int) = 6)), .bool (decide ((j : Int) = 7)), .bool false, .bool false], .list [.bool (decide ((j : Int) < 6)), .bool (decide (V.int (j : Int) = V.int 6)), .bool (decide (V.int (j : Int) = V.int 7)), .bool false, .bool false], .lst (SqL.of (s11 _ _ hpa)) (.cons (.bl _) (.cons (.bl _) (.cons (.bl _) (.cons (.bl _) (.cons (.bl _) .nil))))), .lst (SqL.of upd_same) (.cons (.bl _) (.cons (.bl _) (.cons (.bl _) (.cons (.bl _) (.cons (.bl _) .nil))))), rfl, rfl, _, rfl, ifN1 (by rw [e6, e7, eqv_b]; rfl) ?_⟩
        exact ⟨_, _, _, _, rfl, (s19.trans s10).trans s11⟩
    · rintro σ H5 ⟨z5, z6, z7, z8, rfl, s5⟩
      exact q _ (s1.trans s5)
theorem evAll_get {K : PySem.W.Frag} {H : Hp} : ∀ {xs : List V} {ds : List PyData} {i : Nat}, EvAll K H xs ds → i < xs.length → ∃ x d, xs[i]? = some x ∧ ds[i]? = some d ∧ Ev K H x d
  | _, _, _, .nil, h => by simp at h
  | _, _, 0, .cons h _, _ => ⟨_, _, rfl, rfl, h⟩
  | _, _, i + 1, .cons _ t, hi => evAll_get (i := i) t (by simp at hi; omega)
def someD : List PyData := [.none, .int 0, .int (-1), .int 7, .bool true, .str "", .str "form", .tuple [], .tuple [.int 1, .int 2], .list [.int 1, .int 2], .dict [(.str "a", .int 1)], .int (10 ^ 30), .tuple [.int 1, .tuple [.int 0, .int 2]], .bool false]
theorem someD_sv : ∀ d ∈ someD, Sv d := by
  intro d hd
  unfold someD at hd
  simp only [List.mem_cons, List.not_mem_nil, or_false] at hd
  rcases hd with rfl | rfl | rfl | rfl | rfl | rfl | rfl | rfl | rfl | rfl | rfl | rfl | rfl | rfl <;> exact ⟨by decide +kernel, by decide +kernel, by decide +kernel⟩
def sp_law : Sp := fun vs H Q _ => ∃ (a : Addr) (ns : List Int), vs = [.ref a] ∧ SqL K H a (ns.map V.int) ∧ ns.length ≤ 63 ∧ ∀ H', Q (.bl true) H'
set_option maxHeartbeats 4000000 in
theorem ok_law (T : Txt K mg) : FnG P w K mg base 7 T.f_law T.d_law ["script"] (sp_law (K := K)) := by
  refine okG T.F_law sc_law (fun vs H Q E h => ?_) (fun cdv A outer s H vs Q E hgd hr h => ?_)
  · obtain ⟨a, ns, rfl, _⟩ := h
    rfl
  · obtain ⟨a, ns, rfl, hS, hl, q⟩ := h
    refine ⟨_,
(pss_cons (ps_set (i := 1) sc_law.nd rfl (Or.inl rfl) (pe_call (ok_law_begun T) (hr.mono (by decide)) (by rfl) T.g__law_begun T.F__law_begun.kp T.b__law_begun .nil pass0 (pa_cons (pv 0) pa_nil)))
      (pss_cons (ps_set (i := 2) sc_law.nd rfl (Or.inl rfl) (pe_lst (pa_cons pe_non (pa_cons pe_int (pa_cons (pe_un un_neg pe_int) (pa_cons pe_int (pa_cons pe_bl (pa_cons pe_str (pa_cons pe_str (pa_cons (pe_tup pa_nil) (pa_cons (pe_tup (pa_cons pe_int (pa_cons pe_int pa_nil))) (pa_cons (My.pe_lstE (pa_cons pe_int (pa_cons pe_int pa_nil))) (pa_cons (pe_disp (pps_cons pe_str pe_int pps_nil) (by rfl) (by rfl) (fun z => by cases z) (by decide)) (pa_cons (pe_op op_pow pe_int pe_int) (pa_cons (pe_tup (pa_cons pe_int (pa_cons (pe_tup (pa_cons pe_int (pa_cons pe_int pa_nil))) pa_nil))) (pa_cons pe_bl pa_nil))))))))))))))))
      (pss_cons (ps_for PassesOwn.never rfl (pi_range1 (by rfl) T.z_range (pa_cons (pe_op op_add pe_int (pe_callB (call_min2 rfl) (by rfl) T.z_min (by decide +kernel) (pa_cons (pe_callB (call_len_seq) (by rfl) T.z_len (by decide +kernel) (pa_cons (pv 0) pa_nil)) (pa_cons pe_int pa_nil)))) pa_nil)) (pg_name (i := 3) sc_law.nd rfl (Or.inl rfl)) (pss_one (ps_if (pt_not (pt_val (My.pe_callG (ok_law_right T) hgd (hr.mono (by decide)) (by rfl) T.g__law_right T.F__law_right.kp T.b__law_right .nil pass0 (pa_cons (pe_call (ok_law_next T) (hr.mono (by decide)) (by rfl) T.g__law_next T.F__law_next.kp T.b__law_next .nil pass0 (pa_cons (pv 1) (pa_cons pe_int pa_nil))) (pa_cons (pe_ix ix_list (pv 2) (pe_call (ok_law_next T) (hr.mono (by decide)) (by rfl) T.g__law_next T.F__law_next.kp T.b__law_next .nil pass0 (pa_cons (pv 1) (pa_cons pe_int pa_nil))) (fun _ _ => rfl)) (pa_cons (pe_ix ix_list (pv 2) (pe_call (ok_law_next T) (hr.mono (by decide)) (by rfl) T.g__law_next T.F__law_next.kp T.b__law_next .nil pass0 (pa_cons (pv 1) (pa_cons pe_int pa_nil))) (fun _ _ => rfl)) pa_nil)))))) (pss_one (ps_ret pe_bl)) pss_nil)))
      (pss_one (ps_ret pe_bl)))))
, ?_⟩
    refine ⟨.ref a, rfl, a, ns, rfl, hS, hl, fun m c l H1 s1 hm hc hl0 D1 => ?_⟩
    have hS1 := s1.seq hS
    refine ⟨_, rfl, by show 0 ≤ sizeLine; decide, fun p1 h1 => ?_⟩
    have z1 := same_new (o := .tup []) h1
    have f1 := hide_at (o := .tup []) D1 h1
    have D2 := D1.new (o := .tup []) h1
    generalize upd H1 p1 (.tup []) = G1 at z1 f1 D2
    refine ⟨by show 2 ≤ sizeLine; decide, fun p2 h2 => ?_⟩
    have z2 := same_new (o := .tup [V.int 1, .int 2]) h2
    have f2 := hide_at (o := .tup [V.int 1, .int 2]) D2 h2
    have D3 := D2.new (o := .tup [V.int 1, .int 2]) h2
    generalize upd G1 p2 (.tup [V.int 1, .int 2]) = G2 at z2 f2 D3
    refine ⟨by show 2 ≤ sizeLine; decide, fun p3 h3 m3 => ?_⟩
    have z3 := same_new (o := .lst [V.int 1, .int 2]) h3
    have f3 := hide_at (o := .lst [V.int 1, .int 2]) D3 h3
    have D4 := D3.new (o := .lst [V.int 1, .int 2]) h3
    generalize upd G2 p3 (.lst [V.int 1, .int 2]) = G3 at z3 f3 D4
    refine fun p4 h4 => ⟨upd_same, [(.inr "a", .int 1)], rfl, by decide, ?_⟩
    rw [upd_upd]
    have z4 := same_new (o := .dK (mergeK [] [((.inr "a" : Key), V.int 1)])) h4
    have f4 : hide m l (upd G3 p4 (.dK (mergeK [] [((.inr "a" : Key), V.int 1)]))) p4 = some (.dK [(.inr "a", .int 1)]) := hide_at (o := .dK (mergeK [] [((.inr "a" : Key), V.int 1)])) D4 h4
    have D5 := D4.new (o := .dK (mergeK [] [((.inr "a" : Key), V.int 1)])) h4
    generalize upd G3 p4 (.dK (mergeK [] [((.inr "a" : Key), V.int 1)])) = G4 at z4 f4 D5
    refine ⟨10, 30, rfl, rfl, ⟨by decide, by decide, by decide⟩, ?_⟩
    refine ⟨by show 2 ≤ sizeLine; decide, fun p5 h5 => ?_⟩
    have z5 := same_new (o := .tup [V.int 0, .int 2]) h5
    have f5 := hide_at (o := .tup [V.int 0, .int 2]) D5 h5
    have D6 := D5.new (o := .tup [V.int 0, .int 2]) h5
    generalize upd G4 p5 (.tup [V.int 0, .int 2]) = G5 at z5 f5 D6
    refine ⟨by show 2 ≤ sizeLine; decide, fun p6 h6 => ?_⟩
    have z6 := same_new (o := .tup [V.int 1, .ref p5]) h6
    have f6 := hide_at (o := .tup [V.int 1, .ref p5]) D6 h6
    have D7 := D6.new (o := .tup [V.int 1, .ref p5]) h6
    generalize upd G5 p6 (.tup [V.int 1, .ref p5]) = G6 at z6 f6 D7
    refine ⟨by show 14 ≤ sizeLine; decide, fun pS hpS => ?_⟩
    obtain ⟨vals, hvals⟩ : ∃ vals, vals = [V.non, .int 0, .int (-1), .int 7, .bl true, .str "", .str "form", .ref p1, .ref p2, .ref p3, .ref p4, .int (10 ^ (30 : Int).toNat), .ref p6, .bl false] := ⟨_, rfl⟩
    have zS := same_new (o := .lst vals) hpS
    have fS := hide_at (o := .lst vals) D7 hpS
    have D8 := D7.new (o := .lst vals) hpS
    have y7 := hide_same (m := m) (l := l) zS
    have y6 := (hide_same (m := m) (l := l) z6).trans y7
    have y5 := (hide_same (m := m) (l := l) z5).trans y6
    have y4 := (hide_same (m := m) (l := l) z4).trans y5
    have y3 := (hide_same (m := m) (l := l) z3).trans y4
    have y2 := (hide_same (m := m) (l := l) z2).trans y3
    have g1 := y2 _ _ f1
    have g2 := y3 _ _ f2
    have g3 := y4 _ _ f3
    have g4 := y5 _ _ f4
    have g5 := y6 _ _ f5
    have g6 := y7 _ _ f6
    have hvl : vals.length = 14 := by rw [hvals]; rfl
    have sA := ((((((z1.trans z2).trans z3).trans z4).trans z5).trans z6).trans zS)
    have hS8 := sA.seq hS1
    rw [← hvals]
    clear y2 y3 y4 y5 y6 y7
    generalize upd G6 pS (.lst vals) = G7 at fS D8 hS8 g1 g2 g3 g4 g5 g6 zS sA
    have ev : EvAll K (hide m l G7) vals someD := by
      rw [hvals]
      exact .cons .non (.cons (.int _) (.cons (.int _) (.cons (.int _) (.cons (.bl _) (.cons (.str _) (.cons (.str _) (.cons (.tp (.inl (.inl g1)) .nil) (.cons (.tp (.inl (.inl g2)) (.cons (.int _) (.cons (.int _) .nil))) (.cons (.ls g3 m3 (.cons (.int _) (.cons (.int _) .nil))) (.cons (.dk g4) (.cons (.int _) (.cons (.tp (.inl (.inl g6)) (.cons (.int _) (.cons (.tp (.inl (.inl g5)) (.cons (.int _) (.cons (.int _) .nil))) .nil))) (.cons (.bl _) .nil)))))))))))))
    clear z1 z2 z3 z4 z5 z6 zS g1 g2 g3 g4 g5 g6 f1 f2 f3 f4 f5 f6 sA D1 D2 D3 D4 D5 D6 D7 h1 h2 h3 h4 h5 h6 hpS
    refine ⟨_, rfl, a, _, rfl, .inl hS8, ?_⟩
    refine ⟨_, 5, rfl, 2, _, rfl, rfl, _, rfl, ?_, ?_, ?_⟩
    · rw [List.length_map]; split <;> omega
    · rw [List.length_map]; split <;> omega
    have hn : (2 + if (5 : Int) < ((ns.map V.int).length : Int) then 5 else ((ns.map V.int).length : Int)).toNat ≤ 7 := by
      rw [List.length_map]
      split <;> omega
    refine for_range (lo := 0) (n := (2 + if (5 : Int) < ((ns.map V.int).length : Int) then 5 else ((ns.map V.int).length : Int)).toNat)
      (fun i σ H' => ∃ x3 l', σ = [some (.ref a), some (.ref m), some (.ref pS), x3] ∧ Dr H' m c l' (900000 - 10 * i) ∧ hide m l' H' pS = some (.lst vals) ∧ EvAll K (hide m l' H') vals someD) ⟨none, l, rfl, D8, fS, ev⟩ ?_ ?_
    · rintro i σ H2 hi ⟨x3, l2, rfl, D2, fS2, ev2⟩
      have hi5 : i < 7 := by omega
      have D2 : Dr H2 m c l2 (900000 - 10 * (i + 1) + 2 + 1) := D2.less (by omega)
      refine ⟨_, rfl, m, c, l2, _, 2, rfl, by decide, by decide, D2, fun r0 l3 H3 a0 b0 kp3 D3 => ?_⟩
      have D3 : Dr H3 m c l3 (900000 - 10 * (i + 1) + 1 + 1) := D3
      refine ⟨_, rfl, _, rfl, m, c, l3, _, 14, rfl, by decide, by decide, D3, fun r1 l4 H4 a1 b1 kp4 D4 => ?_⟩
      have q34 := (hide_step kp3).trans (hide_step kp4)
      have fS4 := q34 _ _ fS2
      have ev4 := ev2.same q34
      obtain ⟨n1, rfl⟩ : ∃ n : Nat, r1 = n := ⟨r1.toNat, by omega⟩
      obtain ⟨v1, d1, hv1, hd1, e1⟩ := evAll_get (i := n1) ev4 (by omega)
      refine ⟨pS, vals, (n1 : Int), v1, rfl, rfl, SqL.of (hide_sub _ _ fS4), atI_nat hv1, ?_⟩
      refine ⟨_, rfl, _, rfl, m, c, l4, _, 14, rfl, by decide, by decide, D4, fun r2 l5 H5 a2 b2 kp5 D5 => ?_⟩
      have q5 := hide_step kp5
      have fS5 := q5 _ _ fS4
      have ev5 := ev4.same q5
      obtain ⟨n2, rfl⟩ : ∃ n : Nat, r2 = n := ⟨r2.toNat, by omega⟩
      obtain ⟨v2, d2, hv2, hd2, e2⟩ := evAll_get (i := n2) ev5 (by omega)
      refine ⟨pS, vals, (n2 : Int), v2, rfl, rfl, SqL.of (hide_sub _ _ fS5), atI_nat hv2, ?_⟩
      refine ⟨r0, v1, v2, d1, d2, rfl, Ev.same (q5.trans hide_sub) e1, Ev.same hide_sub e2, someD_sv _ (List.mem_of_getElem? hd1), someD_sv _ (List.mem_of_getElem? hd2), fun H6 s6 => ?_⟩
      refine ⟨_, rfl, ?_⟩
      refine iteF ?_
      exact ⟨_, l5, rfl, (D5.same s6).less (by omega), hide_same s6 _ _ fS5, ev5.same (hide_same s6)⟩
    · rintro σ H2 ⟨x3, l2, rfl, D2, _⟩
      exact q H2
end
end My

namespace My
open PySem PySem.Spec PyProof.Rows L2
set_option maxHeartbeats 0 in
theorem all_mk {l : PySem.W.OpenLaw} {w : World} {K : PySem.W.Frag} {h : Heap} {mg : Str → Option Value} {fa : Addr} (X : K.In h) (G : h.Ns mainGlobals mg) (hfa : mg "law" = some (.ref fa))
    {oc0 kV0 dc0 pm0 cd0 ct0 : Value} {od0 an0 : Option Addr} {sl0 : Array (Option Value)} {f0 : Addr}
    {oc1 kV1 dc1 pm1 cd1 ct1 : Value} {od1 an1 : Option Addr} {sl1 : Array (Option Value)} {f1 : Addr}
    {oc2 kV2 dc2 pm2 cd2 ct2 : Value} {od2 an2 : Option Addr} {sl2 : Array (Option Value)} {f2 : Addr}
    {oc3 kV3 dc3 pm3 cd3 ct3 : Value} {od3 an3 : Option Addr} {sl3 : Array (Option Value)} {f3 : Addr}
    {oc4 kV4 dc4 pm4 cd4 ct4 : Value} {od4 an4 : Option Addr} {sl4 : Array (Option Value)} {f4 : Addr}
    {oc5 kV5 dc5 pm5 cd5 ct5 : Value} {od5 an5 : Option Addr} {sl5 : Array (Option Value)} {f5 : Addr}
    {oc6 kV6 dc6 pm6 cd6 ct6 : Value} {od6 an6 : Option Addr} {sl6 : Array (Option Value)} {f6 : Addr}
    {C0 g0 N0 : Addr} {nmC0 qC0 : Str} {bsC0 subC0 : List Value} {snC0 : List Str} {abC0 : Bool} {colC0 : Option Bool} {ddC0 : Option Addr} {m0C0 m1C0 m2C0 m3C0 m5C0 : Option Value} {ocC0 kVC0 dcC0 pmC0 cdC0 ctC0 : Value} {odC0 anC0 : Option Addr} {slC0 : Array (Option Value)}
    {C1 g1 N1 : Addr} {nmC1 qC1 : Str} {bsC1 subC1 : List Value} {snC1 : List Str} {abC1 : Bool} {colC1 : Option Bool} {ddC1 : Option Addr} {m0C1 m1C1 m2C1 m3C1 m5C1 : Option Value} {ocC1 kVC1 dcC1 pmC1 cdC1 ctC1 : Value} {odC1 anC1 : Option Addr} {slC1 : Array (Option Value)}
    {C2 g2 N2 : Addr} {nmC2 qC2 : Str} {bsC2 subC2 : List Value} {snC2 : List Str} {abC2 : Bool} {colC2 : Option Bool} {ddC2 : Option Addr} {m0C2 m1C2 m2C2 m3C2 m5C2 : Option Value} {ocC2 kVC2 dcC2 pmC2 cdC2 ctC2 : Value} {odC2 anC2 : Option Addr} {slC2 : Array (Option Value)}
    {C3 g3 N3 : Addr} {nmC3 qC3 : Str} {bsC3 subC3 : List Value} {snC3 : List Str} {abC3 : Bool} {colC3 : Option Bool} {ddC3 : Option Addr} {m0C3 m1C3 m2C3 m3C3 m5C3 : Option Value} {ocC3 kVC3 dcC3 pmC3 cdC3 ctC3 : Value} {odC3 anC3 : Option Addr} {slC3 : Array (Option Value)}
    {C4 g4 N4 : Addr} {nmC4 qC4 : Str} {bsC4 subC4 : List Value} {snC4 : List Str} {abC4 : Bool} {colC4 : Option Bool} {ddC4 : Option Addr} {m0C4 m1C4 m2C4 m3C4 m5C4 : Option Value} {ocC4 kVC4 dcC4 pmC4 cdC4 ctC4 : Value} {odC4 anC4 : Option Addr} {slC4 : Array (Option Value)}
    {C5 g5 N5 : Addr} {nmC5 qC5 : Str} {bsC5 subC5 : List Value} {snC5 : List Str} {abC5 : Bool} {colC5 : Option Bool} {ddC5 : Option Addr} {m0C5 m1C5 m2C5 m3C5 m5C5 : Option Value} {ocC5 kVC5 dcC5 pmC5 cdC5 ctC5 : Value} {odC5 anC5 : Option Addr} {slC5 : Array (Option Value)}
    {C6 g6 N6 : Addr} {nmC6 qC6 : Str} {bsC6 subC6 : List Value} {snC6 : List Str} {abC6 : Bool} {colC6 : Option Bool} {ddC6 : Option Addr} {m0C6 m1C6 m2C6 m3C6 m5C6 : Option Value} {ocC6 kVC6 dcC6 pmC6 cdC6 ctC6 : Value} {odC6 anC6 : Option Addr} {slC6 : Array (Option Value)}
    {C7 g7 N7 : Addr} {nmC7 qC7 : Str} {bsC7 subC7 : List Value} {snC7 : List Str} {abC7 : Bool} {colC7 : Option Bool} {ddC7 : Option Addr} {m0C7 m1C7 m2C7 m3C7 m5C7 : Option Value} {ocC7 kVC7 dcC7 pmC7 cdC7 ctC7 : Value} {odC7 anC7 : Option Addr} {slC7 : Array (Option Value)}
    (a0 : PySem.W.nsIn K mainGlobals "_law_begun" = some (some (.ref f0)))
    (l0 : K.lookup f0 = some ⟨oc0, od0, .func (PySem.W.fnOf "_law_begun" "_law_begun" (defArgs s_law_begun) (defBody s_law_begun) (defScope s_law_begun) .none kV0 dc0 pm0 an0 cd0 ct0), sl0⟩)
    (c0 : PySem.W.codeIn K cd0 "_law_begun" = true)
    (k0 : PySem.W.keepIn K (.ref f0) = true)
    (a1 : PySem.W.nsIn K mainGlobals "_law_next" = some (some (.ref f1)))
    (l1 : K.lookup f1 = some ⟨oc1, od1, .func (PySem.W.fnOf "_law_next" "_law_next" (defArgs s_law_next) (defBody s_law_next) (defScope s_law_next) .none kV1 dc1 pm1 an1 cd1 ct1), sl1⟩)
    (c1 : PySem.W.codeIn K cd1 "_law_next" = true)
    (k1 : PySem.W.keepIn K (.ref f1) = true)
    (a2 : PySem.W.nsIn K mainGlobals "_law_marks" = some (some (.ref f2)))
    (l2 : K.lookup f2 = some ⟨oc2, od2, .func (PySem.W.fnOf "_law_marks" "_law_marks" (defArgs s_law_marks) (defBody s_law_marks) (defScope s_law_marks) .none kV2 dc2 pm2 an2 cd2 ct2), sl2⟩)
    (c2 : PySem.W.codeIn K cd2 "_law_marks" = true)
    (k2 : PySem.W.keepIn K (.ref f2) = true)
    (a3 : PySem.W.nsIn K mainGlobals "_law_above" = some (some (.ref f3)))
    (l3 : K.lookup f3 = some ⟨oc3, od3, .func (PySem.W.fnOf "_law_above" "_law_above" (defArgs s_law_above) (defBody s_law_above) (defScope s_law_above) .none kV3 dc3 pm3 an3 cd3 ct3), sl3⟩)
    (c3 : PySem.W.codeIn K cd3 "_law_above" = true)
    (k3 : PySem.W.keepIn K (.ref f3) = true)
    (a4 : PySem.W.nsIn K mainGlobals "_law_made" = some (some (.ref f4)))
    (l4 : K.lookup f4 = some ⟨oc4, od4, .func (PySem.W.fnOf "_law_made" "_law_made" (defArgs s_law_made) (defBody s_law_made) (defScope s_law_made) .none kV4 dc4 pm4 an4 cd4 ct4), sl4⟩)
    (c4 : PySem.W.codeIn K cd4 "_law_made" = true)
    (k4 : PySem.W.keepIn K (.ref f4) = true)
    (a5 : PySem.W.nsIn K mainGlobals "_law_right" = some (some (.ref f5)))
    (l5 : K.lookup f5 = some ⟨oc5, od5, .func (PySem.W.fnOf "_law_right" "_law_right" (defArgs s_law_right) (defBody s_law_right) (defScope s_law_right) .none kV5 dc5 pm5 an5 cd5 ct5), sl5⟩)
    (c5 : PySem.W.codeIn K cd5 "_law_right" = true)
    (k5 : PySem.W.keepIn K (.ref f5) = true)
    (a6 : PySem.W.nsIn K mainGlobals "law" = some (some (.ref f6)))
    (l6 : K.lookup f6 = some ⟨oc6, od6, .func (PySem.W.fnOf "law" "law" (defArgs s_law) (defBody s_law) (defScope s_law) .none kV6 dc6 pm6 an6 cd6 ct6), sl6⟩)
    (c6 : PySem.W.codeIn K cd6 "law" = true)
    (k6 : PySem.W.keepIn K (.ref f6) = true)
    (z_IndexError : PySem.W.nsIn K mainGlobals "IndexError" = some none)
    (z_KeyError : PySem.W.nsIn K mainGlobals "KeyError" = some none)
    (z_LookupError : PySem.W.nsIn K mainGlobals "LookupError" = some none)
    (z_OverflowError : PySem.W.nsIn K mainGlobals "OverflowError" = some none)
    (z_ValueError : PySem.W.nsIn K mainGlobals "ValueError" = some none)
    (z_enumerate : PySem.W.nsIn K mainGlobals "enumerate" = some none)
    (z_int : PySem.W.nsIn K mainGlobals "int" = some none)
    (z_isinstance : PySem.W.nsIn K mainGlobals "isinstance" = some none)
    (z_len : PySem.W.nsIn K mainGlobals "len" = some none)
    (z_list : PySem.W.nsIn K mainGlobals "list" = some none)
    (z_min : PySem.W.nsIn K mainGlobals "min" = some none)
    (z_range : PySem.W.nsIn K mainGlobals "range" = some none)
    (z_repr : PySem.W.nsIn K mainGlobals "repr" = some none)
    (aC0 : PySem.W.nsIn K mainGlobals "BadCoder" = some (some (.ref C0)))
    (xC0 : K.lookup C0 = some (excClassObj nmC0 qC0 C0 N0 bsC0 [.type "ValueError", .type "Exception", .type "BaseException", .type "object"] true snC0 subC0 abC0 colC0 ddC0 m0C0 m1C0 m2C0 m3C0 m5C0 "ValueError.__new__"))
    (saC0 : PySem.W.findIn K (.ref C0) "__setattr__" = some (some (.builtin "object.__setattr__")))
    (iC0 : PySem.W.findIn K (.ref C0) "__init__" = some (some (.ref g0)))
    (tI0 : PySem.W.typeIn K (.ref g0) = some (.type "function"))
    (lC0 : K.lookup g0 = some ⟨ocC0, odC0, .func (PySem.W.fnOf "__init__" "BadCoder.__init__" (defArgs si_BadCoder) (defBody si_BadCoder) (defScope si_BadCoder) .none kVC0 dcC0 pmC0 anC0 cdC0 ctC0), slC0⟩)
    (cC0 : PySem.W.codeIn K cdC0 "BadCoder.__init__" = true)
    (kI0 : PySem.W.keepIn K (.ref g0) = true)
    (kC0 : PySem.W.keepIn K (.ref C0) = true)
    (eC0 : PySem.W.subIn K (.ref C0) (.type "BaseException") = some true)
    (tC0 : PySem.W.typeIn K (.ref C0) = some (.type "type"))
    (isC0 : PySem.W.isClsIn K C0 = true)
    (sC0 : PySem.W.subIn K (.ref C0) (.ref C0) = some true)
    (gaC0 : PySem.W.findIn K (.ref C0) "__getattribute__" = some (some (.builtin "BaseException.__getattribute__")))
    (ggC0 : PySem.W.findIn K (.ref C0) "__getattr__" = some none)
    (hdC0 : PySem.W.hasDictIn K C0 = true)
    (nC0part : PySem.W.findIn K (.ref C0) "part" = some none)
    (nC0number : PySem.W.findIn K (.ref C0) "number" = some none)
    (sv0x0 : PySem.W.subIn K (.ref C0) (.type "ValueError") = some true)
    (sv0x1 : PySem.W.subIn K (.ref C0) (.type "OverflowError") = some false)
    (sv0x2 : PySem.W.subIn K (.ref C0) (.type "LookupError") = some false)
    (sv0x3 : PySem.W.subIn K (.ref C0) (.type "KeyError") = some false)
    (sv0x4 : PySem.W.subIn K (.ref C0) (.type "IndexError") = some false)
    (haC0 : PySem.W.findIn K (.ref C0) "__class__" = some (some (.builtin "object.__class__")))
    (hmC0 : PySem.W.mroIn K C0 (.type "object") = some true)
    (aC1 : PySem.W.nsIn K mainGlobals "BadRow" = some (some (.ref C1)))
    (xC1 : K.lookup C1 = some (excClassObj nmC1 qC1 C1 N1 bsC1 [.type "ValueError", .type "Exception", .type "BaseException", .type "object"] true snC1 subC1 abC1 colC1 ddC1 m0C1 m1C1 m2C1 m3C1 m5C1 "ValueError.__new__"))
    (saC1 : PySem.W.findIn K (.ref C1) "__setattr__" = some (some (.builtin "object.__setattr__")))
    (iC1 : PySem.W.findIn K (.ref C1) "__init__" = some (some (.ref g1)))
    (tI1 : PySem.W.typeIn K (.ref g1) = some (.type "function"))
    (lC1 : K.lookup g1 = some ⟨ocC1, odC1, .func (PySem.W.fnOf "__init__" "BadRow.__init__" (defArgs si_BadRow) (defBody si_BadRow) (defScope si_BadRow) .none kVC1 dcC1 pmC1 anC1 cdC1 ctC1), slC1⟩)
    (cC1 : PySem.W.codeIn K cdC1 "BadRow.__init__" = true)
    (kI1 : PySem.W.keepIn K (.ref g1) = true)
    (kC1 : PySem.W.keepIn K (.ref C1) = true)
    (eC1 : PySem.W.subIn K (.ref C1) (.type "BaseException") = some true)
    (tC1 : PySem.W.typeIn K (.ref C1) = some (.type "type"))
    (isC1 : PySem.W.isClsIn K C1 = true)
    (sC1 : PySem.W.subIn K (.ref C1) (.ref C1) = some true)
    (gaC1 : PySem.W.findIn K (.ref C1) "__getattribute__" = some (some (.builtin "BaseException.__getattribute__")))
    (ggC1 : PySem.W.findIn K (.ref C1) "__getattr__" = some none)
    (hdC1 : PySem.W.hasDictIn K C1 = true)
    (nC1row : PySem.W.findIn K (.ref C1) "row" = some none)
    (nC1word : PySem.W.findIn K (.ref C1) "word" = some none)
    (sv1x0 : PySem.W.subIn K (.ref C1) (.type "ValueError") = some true)
    (sv1x1 : PySem.W.subIn K (.ref C1) (.type "OverflowError") = some false)
    (sv1x2 : PySem.W.subIn K (.ref C1) (.type "LookupError") = some false)
    (sv1x3 : PySem.W.subIn K (.ref C1) (.type "KeyError") = some false)
    (sv1x4 : PySem.W.subIn K (.ref C1) (.type "IndexError") = some false)
    (haC1 : PySem.W.findIn K (.ref C1) "__class__" = some (some (.builtin "object.__class__")))
    (hmC1 : PySem.W.mroIn K C1 (.type "object") = some true)
    (aC2 : PySem.W.nsIn K mainGlobals "BadPaper" = some (some (.ref C2)))
    (xC2 : K.lookup C2 = some (excClassObj nmC2 qC2 C2 N2 bsC2 [.type "ValueError", .type "Exception", .type "BaseException", .type "object"] true snC2 subC2 abC2 colC2 ddC2 m0C2 m1C2 m2C2 m3C2 m5C2 "ValueError.__new__"))
    (saC2 : PySem.W.findIn K (.ref C2) "__setattr__" = some (some (.builtin "object.__setattr__")))
    (iC2 : PySem.W.findIn K (.ref C2) "__init__" = some (some (.ref g2)))
    (tI2 : PySem.W.typeIn K (.ref g2) = some (.type "function"))
    (lC2 : K.lookup g2 = some ⟨ocC2, odC2, .func (PySem.W.fnOf "__init__" "BadPaper.__init__" (defArgs si_BadPaper) (defBody si_BadPaper) (defScope si_BadPaper) .none kVC2 dcC2 pmC2 anC2 cdC2 ctC2), slC2⟩)
    (cC2 : PySem.W.codeIn K cdC2 "BadPaper.__init__" = true)
    (kI2 : PySem.W.keepIn K (.ref g2) = true)
    (kC2 : PySem.W.keepIn K (.ref C2) = true)
    (eC2 : PySem.W.subIn K (.ref C2) (.type "BaseException") = some true)
    (tC2 : PySem.W.typeIn K (.ref C2) = some (.type "type"))
    (isC2 : PySem.W.isClsIn K C2 = true)
    (sC2 : PySem.W.subIn K (.ref C2) (.ref C2) = some true)
    (gaC2 : PySem.W.findIn K (.ref C2) "__getattribute__" = some (some (.builtin "BaseException.__getattribute__")))
    (ggC2 : PySem.W.findIn K (.ref C2) "__getattr__" = some none)
    (hdC2 : PySem.W.hasDictIn K C2 = true)
    (nC2part : PySem.W.findIn K (.ref C2) "part" = some none)
    (nC2number : PySem.W.findIn K (.ref C2) "number" = some none)
    (sv2x0 : PySem.W.subIn K (.ref C2) (.type "ValueError") = some true)
    (sv2x1 : PySem.W.subIn K (.ref C2) (.type "OverflowError") = some false)
    (sv2x2 : PySem.W.subIn K (.ref C2) (.type "LookupError") = some false)
    (sv2x3 : PySem.W.subIn K (.ref C2) (.type "KeyError") = some false)
    (sv2x4 : PySem.W.subIn K (.ref C2) (.type "IndexError") = some false)
    (haC2 : PySem.W.findIn K (.ref C2) "__class__" = some (some (.builtin "object.__class__")))
    (hmC2 : PySem.W.mroIn K C2 (.type "object") = some true)
    (aC3 : PySem.W.nsIn K mainGlobals "BadByte" = some (some (.ref C3)))
    (xC3 : K.lookup C3 = some (excClassObj nmC3 qC3 C3 N3 bsC3 [.type "ValueError", .type "Exception", .type "BaseException", .type "object"] true snC3 subC3 abC3 colC3 ddC3 m0C3 m1C3 m2C3 m3C3 m5C3 "ValueError.__new__"))
    (saC3 : PySem.W.findIn K (.ref C3) "__setattr__" = some (some (.builtin "object.__setattr__")))
    (iC3 : PySem.W.findIn K (.ref C3) "__init__" = some (some (.ref g3)))
    (tI3 : PySem.W.typeIn K (.ref g3) = some (.type "function"))
    (lC3 : K.lookup g3 = some ⟨ocC3, odC3, .func (PySem.W.fnOf "__init__" "BadByte.__init__" (defArgs si_BadByte) (defBody si_BadByte) (defScope si_BadByte) .none kVC3 dcC3 pmC3 anC3 cdC3 ctC3), slC3⟩)
    (cC3 : PySem.W.codeIn K cdC3 "BadByte.__init__" = true)
    (kI3 : PySem.W.keepIn K (.ref g3) = true)
    (kC3 : PySem.W.keepIn K (.ref C3) = true)
    (eC3 : PySem.W.subIn K (.ref C3) (.type "BaseException") = some true)
    (tC3 : PySem.W.typeIn K (.ref C3) = some (.type "type"))
    (isC3 : PySem.W.isClsIn K C3 = true)
    (sC3 : PySem.W.subIn K (.ref C3) (.ref C3) = some true)
    (gaC3 : PySem.W.findIn K (.ref C3) "__getattribute__" = some (some (.builtin "BaseException.__getattribute__")))
    (ggC3 : PySem.W.findIn K (.ref C3) "__getattr__" = some none)
    (hdC3 : PySem.W.hasDictIn K C3 = true)
    (nC3number : PySem.W.findIn K (.ref C3) "number" = some none)
    (sv3x0 : PySem.W.subIn K (.ref C3) (.type "ValueError") = some true)
    (sv3x1 : PySem.W.subIn K (.ref C3) (.type "OverflowError") = some false)
    (sv3x2 : PySem.W.subIn K (.ref C3) (.type "LookupError") = some false)
    (sv3x3 : PySem.W.subIn K (.ref C3) (.type "KeyError") = some false)
    (sv3x4 : PySem.W.subIn K (.ref C3) (.type "IndexError") = some false)
    (haC3 : PySem.W.findIn K (.ref C3) "__class__" = some (some (.builtin "object.__class__")))
    (hmC3 : PySem.W.mroIn K C3 (.type "object") = some true)
    (aC4 : PySem.W.nsIn K mainGlobals "OutOfPlace" = some (some (.ref C4)))
    (xC4 : K.lookup C4 = some (excClassObj nmC4 qC4 C4 N4 bsC4 [.type "ValueError", .type "Exception", .type "BaseException", .type "object"] true snC4 subC4 abC4 colC4 ddC4 m0C4 m1C4 m2C4 m3C4 m5C4 "ValueError.__new__"))
    (saC4 : PySem.W.findIn K (.ref C4) "__setattr__" = some (some (.builtin "object.__setattr__")))
    (iC4 : PySem.W.findIn K (.ref C4) "__init__" = some (some (.ref g4)))
    (tI4 : PySem.W.typeIn K (.ref g4) = some (.type "function"))
    (lC4 : K.lookup g4 = some ⟨ocC4, odC4, .func (PySem.W.fnOf "__init__" "OutOfPlace.__init__" (defArgs si_OutOfPlace) (defBody si_OutOfPlace) (defScope si_OutOfPlace) .none kVC4 dcC4 pmC4 anC4 cdC4 ctC4), slC4⟩)
    (cC4 : PySem.W.codeIn K cdC4 "OutOfPlace.__init__" = true)
    (kI4 : PySem.W.keepIn K (.ref g4) = true)
    (kC4 : PySem.W.keepIn K (.ref C4) = true)
    (eC4 : PySem.W.subIn K (.ref C4) (.type "BaseException") = some true)
    (tC4 : PySem.W.typeIn K (.ref C4) = some (.type "type"))
    (isC4 : PySem.W.isClsIn K C4 = true)
    (sC4 : PySem.W.subIn K (.ref C4) (.ref C4) = some true)
    (gaC4 : PySem.W.findIn K (.ref C4) "__getattribute__" = some (some (.builtin "BaseException.__getattribute__")))
    (ggC4 : PySem.W.findIn K (.ref C4) "__getattr__" = some none)
    (hdC4 : PySem.W.hasDictIn K C4 = true)
    (sv4x0 : PySem.W.subIn K (.ref C4) (.type "ValueError") = some true)
    (sv4x1 : PySem.W.subIn K (.ref C4) (.type "OverflowError") = some false)
    (sv4x2 : PySem.W.subIn K (.ref C4) (.type "LookupError") = some false)
    (sv4x3 : PySem.W.subIn K (.ref C4) (.type "KeyError") = some false)
    (sv4x4 : PySem.W.subIn K (.ref C4) (.type "IndexError") = some false)
    (haC4 : PySem.W.findIn K (.ref C4) "__class__" = some (some (.builtin "object.__class__")))
    (hmC4 : PySem.W.mroIn K C4 (.type "object") = some true)
    (aC5 : PySem.W.nsIn K mainGlobals "NoSeam" = some (some (.ref C5)))
    (xC5 : K.lookup C5 = some (excClassObj nmC5 qC5 C5 N5 bsC5 [.type "ValueError", .type "Exception", .type "BaseException", .type "object"] true snC5 subC5 abC5 colC5 ddC5 m0C5 m1C5 m2C5 m3C5 m5C5 "ValueError.__new__"))
    (saC5 : PySem.W.findIn K (.ref C5) "__setattr__" = some (some (.builtin "object.__setattr__")))
    (iC5 : PySem.W.findIn K (.ref C5) "__init__" = some (some (.ref g5)))
    (tI5 : PySem.W.typeIn K (.ref g5) = some (.type "function"))
    (lC5 : K.lookup g5 = some ⟨ocC5, odC5, .func (PySem.W.fnOf "__init__" "NoSeam.__init__" (defArgs si_NoSeam) (defBody si_NoSeam) (defScope si_NoSeam) .none kVC5 dcC5 pmC5 anC5 cdC5 ctC5), slC5⟩)
    (cC5 : PySem.W.codeIn K cdC5 "NoSeam.__init__" = true)
    (kI5 : PySem.W.keepIn K (.ref g5) = true)
    (kC5 : PySem.W.keepIn K (.ref C5) = true)
    (eC5 : PySem.W.subIn K (.ref C5) (.type "BaseException") = some true)
    (tC5 : PySem.W.typeIn K (.ref C5) = some (.type "type"))
    (isC5 : PySem.W.isClsIn K C5 = true)
    (sC5 : PySem.W.subIn K (.ref C5) (.ref C5) = some true)
    (gaC5 : PySem.W.findIn K (.ref C5) "__getattribute__" = some (some (.builtin "BaseException.__getattribute__")))
    (ggC5 : PySem.W.findIn K (.ref C5) "__getattr__" = some none)
    (hdC5 : PySem.W.hasDictIn K C5 = true)
    (sv5x0 : PySem.W.subIn K (.ref C5) (.type "ValueError") = some true)
    (sv5x1 : PySem.W.subIn K (.ref C5) (.type "OverflowError") = some false)
    (sv5x2 : PySem.W.subIn K (.ref C5) (.type "LookupError") = some false)
    (sv5x3 : PySem.W.subIn K (.ref C5) (.type "KeyError") = some false)
    (sv5x4 : PySem.W.subIn K (.ref C5) (.type "IndexError") = some false)
    (haC5 : PySem.W.findIn K (.ref C5) "__class__" = some (some (.builtin "object.__class__")))
    (hmC5 : PySem.W.mroIn K C5 (.type "object") = some true)
    (aC6 : PySem.W.nsIn K mainGlobals "TooGreat" = some (some (.ref C6)))
    (xC6 : K.lookup C6 = some (excClassObj nmC6 qC6 C6 N6 bsC6 oeTail true snC6 subC6 abC6 colC6 ddC6 m0C6 m1C6 m2C6 m3C6 m5C6 "OverflowError.__new__"))
    (saC6 : PySem.W.findIn K (.ref C6) "__setattr__" = some (some (.builtin "object.__setattr__")))
    (iC6 : PySem.W.findIn K (.ref C6) "__init__" = some (some (.ref g6)))
    (tI6 : PySem.W.typeIn K (.ref g6) = some (.type "function"))
    (lC6 : K.lookup g6 = some ⟨ocC6, odC6, .func (PySem.W.fnOf "__init__" "TooGreat.__init__" (defArgs si_TooGreat) (defBody si_TooGreat) (defScope si_TooGreat) .none kVC6 dcC6 pmC6 anC6 cdC6 ctC6), slC6⟩)
    (cC6 : PySem.W.codeIn K cdC6 "TooGreat.__init__" = true)
    (kI6 : PySem.W.keepIn K (.ref g6) = true)
    (kC6 : PySem.W.keepIn K (.ref C6) = true)
    (eC6 : PySem.W.subIn K (.ref C6) (.type "BaseException") = some true)
    (tC6 : PySem.W.typeIn K (.ref C6) = some (.type "type"))
    (isC6 : PySem.W.isClsIn K C6 = true)
    (sC6 : PySem.W.subIn K (.ref C6) (.ref C6) = some true)
    (gaC6 : PySem.W.findIn K (.ref C6) "__getattribute__" = some (some (.builtin "BaseException.__getattribute__")))
    (ggC6 : PySem.W.findIn K (.ref C6) "__getattr__" = some none)
    (hdC6 : PySem.W.hasDictIn K C6 = true)
    (nC6most : PySem.W.findIn K (.ref C6) "most" = some none)
    (sv6x0 : PySem.W.subIn K (.ref C6) (.type "ValueError") = some false)
    (sv6x1 : PySem.W.subIn K (.ref C6) (.type "OverflowError") = some true)
    (sv6x2 : PySem.W.subIn K (.ref C6) (.type "LookupError") = some false)
    (sv6x3 : PySem.W.subIn K (.ref C6) (.type "KeyError") = some false)
    (sv6x4 : PySem.W.subIn K (.ref C6) (.type "IndexError") = some false)
    (haC6 : PySem.W.findIn K (.ref C6) "__class__" = some (some (.builtin "object.__class__")))
    (hmC6 : PySem.W.mroIn K C6 (.type "object") = some true)
    (aC7 : PySem.W.nsIn K mainGlobals "Nothing" = some (some (.ref C7)))
    (xC7 : K.lookup C7 = some (excClassObj nmC7 qC7 C7 N7 bsC7 leTail true snC7 subC7 abC7 colC7 ddC7 m0C7 m1C7 m2C7 m3C7 m5C7 "LookupError.__new__"))
    (saC7 : PySem.W.findIn K (.ref C7) "__setattr__" = some (some (.builtin "object.__setattr__")))
    (iC7 : PySem.W.findIn K (.ref C7) "__init__" = some (some (.ref g7)))
    (tI7 : PySem.W.typeIn K (.ref g7) = some (.type "function"))
    (lC7 : K.lookup g7 = some ⟨ocC7, odC7, .func (PySem.W.fnOf "__init__" "Nothing.__init__" (defArgs si_Nothing) (defBody si_Nothing) (defScope si_Nothing) .none kVC7 dcC7 pmC7 anC7 cdC7 ctC7), slC7⟩)
    (cC7 : PySem.W.codeIn K cdC7 "Nothing.__init__" = true)
    (kI7 : PySem.W.keepIn K (.ref g7) = true)
    (kC7 : PySem.W.keepIn K (.ref C7) = true)
    (eC7 : PySem.W.subIn K (.ref C7) (.type "BaseException") = some true)
    (tC7 : PySem.W.typeIn K (.ref C7) = some (.type "type"))
    (isC7 : PySem.W.isClsIn K C7 = true)
    (sC7 : PySem.W.subIn K (.ref C7) (.ref C7) = some true)
    (gaC7 : PySem.W.findIn K (.ref C7) "__getattribute__" = some (some (.builtin "BaseException.__getattribute__")))
    (ggC7 : PySem.W.findIn K (.ref C7) "__getattr__" = some none)
    (hdC7 : PySem.W.hasDictIn K C7 = true)
    (sv7x0 : PySem.W.subIn K (.ref C7) (.type "ValueError") = some false)
    (sv7x1 : PySem.W.subIn K (.ref C7) (.type "OverflowError") = some false)
    (sv7x2 : PySem.W.subIn K (.ref C7) (.type "LookupError") = some true)
    (sv7x3 : PySem.W.subIn K (.ref C7) (.type "KeyError") = some false)
    (sv7x4 : PySem.W.subIn K (.ref C7) (.type "IndexError") = some false)
    (haC7 : PySem.W.findIn K (.ref C7) "__class__" = some (some (.builtin "object.__class__")))
    (hmC7 : PySem.W.mroIn K C7 (.type "object") = some true)
    (hnO : PySem.W.specialIn K (.builtin "object.__class__") "__get__" = some (some (.builtin "getset_descriptor.__get__")))
    (htO : PySem.W.takesIn K (.builtin "object.__class__") = some true)
    (sC0x1 : PySem.W.subIn K (.ref C0) (.ref C1) = some false)
    (sC0x2 : PySem.W.subIn K (.ref C0) (.ref C2) = some false)
    (sC0x3 : PySem.W.subIn K (.ref C0) (.ref C3) = some false)
    (sC0x4 : PySem.W.subIn K (.ref C0) (.ref C4) = some false)
    (sC0x5 : PySem.W.subIn K (.ref C0) (.ref C5) = some false)
    (sC0x6 : PySem.W.subIn K (.ref C0) (.ref C6) = some false)
    (sC0x7 : PySem.W.subIn K (.ref C0) (.ref C7) = some false)
    (sC1x0 : PySem.W.subIn K (.ref C1) (.ref C0) = some false)
    (sC1x2 : PySem.W.subIn K (.ref C1) (.ref C2) = some false)
    (sC1x3 : PySem.W.subIn K (.ref C1) (.ref C3) = some false)
    (sC1x4 : PySem.W.subIn K (.ref C1) (.ref C4) = some false)
    (sC1x5 : PySem.W.subIn K (.ref C1) (.ref C5) = some false)
    (sC1x6 : PySem.W.subIn K (.ref C1) (.ref C6) = some false)
    (sC1x7 : PySem.W.subIn K (.ref C1) (.ref C7) = some false)
    (sC2x0 : PySem.W.subIn K (.ref C2) (.ref C0) = some false)
    (sC2x1 : PySem.W.subIn K (.ref C2) (.ref C1) = some false)
    (sC2x3 : PySem.W.subIn K (.ref C2) (.ref C3) = some false)
    (sC2x4 : PySem.W.subIn K (.ref C2) (.ref C4) = some false)
    (sC2x5 : PySem.W.subIn K (.ref C2) (.ref C5) = some false)
    (sC2x6 : PySem.W.subIn K (.ref C2) (.ref C6) = some false)
    (sC2x7 : PySem.W.subIn K (.ref C2) (.ref C7) = some false)
    (sC3x0 : PySem.W.subIn K (.ref C3) (.ref C0) = some false)
    (sC3x1 : PySem.W.subIn K (.ref C3) (.ref C1) = some false)
    (sC3x2 : PySem.W.subIn K (.ref C3) (.ref C2) = some false)
    (sC3x4 : PySem.W.subIn K (.ref C3) (.ref C4) = some false)
    (sC3x5 : PySem.W.subIn K (.ref C3) (.ref C5) = some false)
    (sC3x6 : PySem.W.subIn K (.ref C3) (.ref C6) = some false)
    (sC3x7 : PySem.W.subIn K (.ref C3) (.ref C7) = some false)
    (sC4x0 : PySem.W.subIn K (.ref C4) (.ref C0) = some false)
    (sC4x1 : PySem.W.subIn K (.ref C4) (.ref C1) = some false)
    (sC4x2 : PySem.W.subIn K (.ref C4) (.ref C2) = some false)
    (sC4x3 : PySem.W.subIn K (.ref C4) (.ref C3) = some false)
    (sC4x5 : PySem.W.subIn K (.ref C4) (.ref C5) = some false)
    (sC4x6 : PySem.W.subIn K (.ref C4) (.ref C6) = some false)
    (sC4x7 : PySem.W.subIn K (.ref C4) (.ref C7) = some false)
    (sC5x0 : PySem.W.subIn K (.ref C5) (.ref C0) = some false)
    (sC5x1 : PySem.W.subIn K (.ref C5) (.ref C1) = some false)
    (sC5x2 : PySem.W.subIn K (.ref C5) (.ref C2) = some false)
    (sC5x3 : PySem.W.subIn K (.ref C5) (.ref C3) = some false)
    (sC5x4 : PySem.W.subIn K (.ref C5) (.ref C4) = some false)
    (sC5x6 : PySem.W.subIn K (.ref C5) (.ref C6) = some false)
    (sC5x7 : PySem.W.subIn K (.ref C5) (.ref C7) = some false)
    (sC6x0 : PySem.W.subIn K (.ref C6) (.ref C0) = some false)
    (sC6x1 : PySem.W.subIn K (.ref C6) (.ref C1) = some false)
    (sC6x2 : PySem.W.subIn K (.ref C6) (.ref C2) = some false)
    (sC6x3 : PySem.W.subIn K (.ref C6) (.ref C3) = some false)
    (sC6x4 : PySem.W.subIn K (.ref C6) (.ref C4) = some false)
    (sC6x5 : PySem.W.subIn K (.ref C6) (.ref C5) = some false)
    (sC6x7 : PySem.W.subIn K (.ref C6) (.ref C7) = some false)
    (sC7x0 : PySem.W.subIn K (.ref C7) (.ref C0) = some false)
    (sC7x1 : PySem.W.subIn K (.ref C7) (.ref C1) = some false)
    (sC7x2 : PySem.W.subIn K (.ref C7) (.ref C2) = some false)
    (sC7x3 : PySem.W.subIn K (.ref C7) (.ref C3) = some false)
    (sC7x4 : PySem.W.subIn K (.ref C7) (.ref C4) = some false)
    (sC7x5 : PySem.W.subIn K (.ref C7) (.ref C5) = some false)
    (sC7x6 : PySem.W.subIn K (.ref C7) (.ref C6) = some false)
    (vV : PySem.W.findCls K (.type "ValueError") (.type "type") "__init__" = some (.val (.builtin "ValueError.__init__")))
    (zV : PySem.W.nsIn K mainGlobals "ValueError" = some none)
    (vL : PySem.W.findCls K (.type "LookupError") (.type "type") "__init__" = some (.val (.builtin "LookupError.__init__")))
    (zL : PySem.W.nsIn K mainGlobals "LookupError" = some none) :
    ∃ fd : FuncData, (∀ (s : Shared) (v : Value), BindsTo s fd ⟨[v], []⟩ [("script", v)]) ∧ ∀ base : Heap, K.In base → base.Ns mainGlobals mg → FnG l.prog w K mg base 7 fa fd ["script"] (sp_law (K := K)) := by
  have e := hfa.symm.trans (PySem.W.mg_of X G a6)
  cases e
  have F0 := fun_mk (st := s_law_begun) l0 c0 k0
  have B0 := F0.binds (ps := ["script"]) fun _ _ _ _ _ _ us hl => match us, hl with | [_], _ => rfl
  have F1 := fun_mk (st := s_law_next) l1 c1 k1
  have B1 := F1.binds (ps := ["m", "many"]) fun _ _ _ _ _ _ us hl => match us, hl with | [_, _], _ => rfl
  have F2 := fun_mk (st := s_law_marks) l2 c2 k2
  have B2 := F2.binds (ps := ["one"]) fun _ _ _ _ _ _ us hl => match us, hl with | [_], _ => rfl
  have F3 := fun_mk (st := s_law_above) l3 c3 k3
  have B3 := F3.binds (ps := ["one"]) fun _ _ _ _ _ _ us hl => match us, hl with | [_], _ => rfl
  have F4 := fun_mk (st := s_law_made) l4 c4 k4
  have B4 := F4.binds (ps := ["way", "x", "y"]) fun _ _ _ _ _ _ us hl => match us, hl with | [_, _, _], _ => rfl
  have F5 := fun_mk (st := s_law_right) l5 c5 k5
  have B5 := F5.binds (ps := ["way", "x", "y"]) fun _ _ _ _ _ _ us hl => match us, hl with | [_, _, _], _ => rfl
  have F6 := fun_mk (st := s_law) l6 c6 k6
  have B6 := F6.binds (ps := ["script"]) fun _ _ _ _ _ _ us hl => match us, hl with | [_], _ => rfl
  have FI0 := fun_mk (st := si_BadCoder) lC0 cC0 kI0
  have BI0 := FI0.binds (ps := ["self", "part", "number"]) fun _ _ _ _ _ _ us hl => match us, hl with | [_, _, _], _ => rfl
  have FI1 := fun_mk (st := si_BadRow) lC1 cC1 kI1
  have BI1 := FI1.binds (ps := ["self", "row", "word"]) fun _ _ _ _ _ _ us hl => match us, hl with | [_, _, _], _ => rfl
  have FI2 := fun_mk (st := si_BadPaper) lC2 cC2 kI2
  have BI2 := FI2.binds (ps := ["self", "part", "number"]) fun _ _ _ _ _ _ us hl => match us, hl with | [_, _, _], _ => rfl
  have FI3 := fun_mk (st := si_BadByte) lC3 cC3 kI3
  have BI3 := FI3.binds (ps := ["self", "number"]) fun _ _ _ _ _ _ us hl => match us, hl with | [_, _], _ => rfl
  have FI4 := fun_mk (st := si_OutOfPlace) lC4 cC4 kI4
  have BI4 := FI4.binds (ps := ["self", "text"]) fun _ _ _ _ _ _ us hl => match us, hl with | [_, _], _ => rfl
  have FI5 := fun_mk (st := si_NoSeam) lC5 cC5 kI5
  have BI5 := FI5.binds (ps := ["self", "text"]) fun _ _ _ _ _ _ us hl => match us, hl with | [_, _], _ => rfl
  have FI6 := fun_mk (st := si_TooGreat) lC6 cC6 kI6
  have BI6 := FI6.binds (ps := ["self", "most"]) fun _ _ _ _ _ _ us hl => match us, hl with | [_, _], _ => rfl
  have FI7 := fun_mk (st := si_Nothing) lC7 cC7 kI7
  have BI7 := FI7.binds (ps := ["self", "text"]) fun _ _ _ _ _ _ us hl => match us, hl with | [_, _], _ => rfl
  let T : Txt K mg := {
    f__law_begun := f0, d__law_begun := _, F__law_begun := F0, b__law_begun := B0, g__law_begun := PySem.W.mg_of X G a0,
    f__law_next := f1, d__law_next := _, F__law_next := F1, b__law_next := B1, g__law_next := PySem.W.mg_of X G a1,
    f__law_marks := f2, d__law_marks := _, F__law_marks := F2, b__law_marks := B2, g__law_marks := PySem.W.mg_of X G a2,
    f__law_above := f3, d__law_above := _, F__law_above := F3, b__law_above := B3, g__law_above := PySem.W.mg_of X G a3,
    f__law_made := f4, d__law_made := _, F__law_made := F4, b__law_made := B4, g__law_made := PySem.W.mg_of X G a4,
    f__law_right := f5, d__law_right := _, F__law_right := F5, b__law_right := B5, g__law_right := PySem.W.mg_of X G a5,
    f_law := fa, d_law := _, F_law := F6, b_law := B6, g_law := hfa,
    z_IndexError := PySem.W.mg_none_of X G z_IndexError,
    z_KeyError := PySem.W.mg_none_of X G z_KeyError,
    z_LookupError := PySem.W.mg_none_of X G z_LookupError,
    z_OverflowError := PySem.W.mg_none_of X G z_OverflowError,
    z_ValueError := PySem.W.mg_none_of X G z_ValueError,
    z_enumerate := PySem.W.mg_none_of X G z_enumerate,
    z_int := PySem.W.mg_none_of X G z_int,
    z_isinstance := PySem.W.mg_none_of X G z_isinstance,
    z_len := PySem.W.mg_none_of X G z_len,
    z_list := PySem.W.mg_none_of X G z_list,
    z_min := PySem.W.mg_none_of X G z_min,
    z_range := PySem.W.mg_none_of X G z_range,
    z_repr := PySem.W.mg_none_of X G z_repr,
    x_BadCoder := ⟨gaC0, ggC0, eC0, hdC0⟩, n_BadCoder_part := nC0part, n_BadCoder_number := nC0number, kv_BadCoder := ⟨kit_ownB kit_meta5.1 sv0x0, kit_ownB kit_meta5.2.1 sv0x1, kit_ownB kit_meta5.2.2.1 sv0x2, kit_ownB kit_meta5.2.2.2.1 sv0x3, kit_ownB kit_meta5.2.2.2.2 sv0x4, True.intro⟩, kb_BadCoder := ⟨fun s us ws _ hl hk => .of_eq (match us, hl, ws, hk with | [_], _, [_, _], _ => rfl), fun r rz => r.append (vals_rev rz)⟩, X_BadCoder := ⟨gaC0, ggC0, eC0, hdC0, haC0, hnO, htO, hmC0⟩, e_BadCoder_BadRow := exm_of eC1 isC1 tC1 sC0x1, e_BadCoder_BadPaper := exm_of eC2 isC2 tC2 sC0x2, e_BadCoder_BadByte := exm_of eC3 isC3 tC3 sC0x3, e_BadCoder_OutOfPlace := exm_of eC4 isC4 tC4 sC0x4, e_BadCoder_NoSeam := exm_of eC5 isC5 tC5 sC0x5, e_BadCoder_TooGreat := exm_of eC6 isC6 tC6 sC0x6, e_BadCoder_Nothing := exm_of eC7 isC7 tC7 sC0x7, em_BadCoder := ⟨exm_of eC0 isC0 tC0 sC0, exm_of eC1 isC1 tC1 sC0x1, exm_of eC2 isC2 tC2 sC0x2, exm_of eC3 isC3 tC3 sC0x3, exm_of eC6 isC6 tC6 sC0x6, exm_of eC4 isC4 tC4 sC0x4, exm_of eC5 isC5 tC5 sC0x5, exm_of eC7 isC7 tC7 sC0x7, True.intro⟩, ks_BadCoder := ⟨kit_self, kit_no isC1 tC1 sC0 sC0x1, kit_no isC2 tC2 sC0 sC0x2, kit_no isC3 tC3 sC0 sC0x3, kit_no isC6 tC6 sC0 sC0x6, kit_no isC4 tC4 sC0 sC0x4, kit_no isC5 tC5 sC0 sC0x5, kit_no isC7 tC7 sC0 sC0x7, True.intro⟩,
    C_BadCoder := C0, fi_BadCoder := g0, di_BadCoder := _, g_BadCoder := PySem.W.mg_of X G aC0, o_BadCoder := ⟨⟨_, _, _, _, _, _, _, _, _, _, _, _, _, _, _, xC0, by decide +kernel⟩, saC0, eC0, tC0, kC0⟩, i_BadCoder := iC0, t_BadCoder := tI0, Fi_BadCoder := FI0, bi_BadCoder := BI0, e_BadCoder := exm_of eC0 isC0 tC0 sC0,
    x_BadRow := ⟨gaC1, ggC1, eC1, hdC1⟩, n_BadRow_row := nC1row, n_BadRow_word := nC1word, kv_BadRow := ⟨kit_ownB kit_meta5.1 sv1x0, kit_ownB kit_meta5.2.1 sv1x1, kit_ownB kit_meta5.2.2.1 sv1x2, kit_ownB kit_meta5.2.2.2.1 sv1x3, kit_ownB kit_meta5.2.2.2.2 sv1x4, True.intro⟩, kb_BadRow := ⟨fun s us ws _ hl hk => .of_eq (match us, hl, ws, hk with | [_], _, [_, _], _ => rfl), fun r rz => r.append (vals_rev rz)⟩, X_BadRow := ⟨gaC1, ggC1, eC1, hdC1, haC1, hnO, htO, hmC1⟩, e_BadRow_BadCoder := exm_of eC0 isC0 tC0 sC1x0, e_BadRow_BadPaper := exm_of eC2 isC2 tC2 sC1x2, e_BadRow_BadByte := exm_of eC3 isC3 tC3 sC1x3, e_BadRow_OutOfPlace := exm_of eC4 isC4 tC4 sC1x4, e_BadRow_NoSeam := exm_of eC5 isC5 tC5 sC1x5, e_BadRow_TooGreat := exm_of eC6 isC6 tC6 sC1x6, e_BadRow_Nothing := exm_of eC7 isC7 tC7 sC1x7, em_BadRow := ⟨exm_of eC0 isC0 tC0 sC1x0, exm_of eC1 isC1 tC1 sC1, exm_of eC2 isC2 tC2 sC1x2, exm_of eC3 isC3 tC3 sC1x3, exm_of eC6 isC6 tC6 sC1x6, exm_of eC4 isC4 tC4 sC1x4, exm_of eC5 isC5 tC5 sC1x5, exm_of eC7 isC7 tC7 sC1x7, True.intro⟩, ks_BadRow := ⟨kit_no isC0 tC0 sC1 sC1x0, kit_self, kit_no isC2 tC2 sC1 sC1x2, kit_no isC3 tC3 sC1 sC1x3, kit_no isC6 tC6 sC1 sC1x6, kit_no isC4 tC4 sC1 sC1x4, kit_no isC5 tC5 sC1 sC1x5, kit_no isC7 tC7 sC1 sC1x7, True.intro⟩,
    C_BadRow := C1, fi_BadRow := g1, di_BadRow := _, g_BadRow := PySem.W.mg_of X G aC1, o_BadRow := ⟨⟨_, _, _, _, _, _, _, _, _, _, _, _, _, _, _, xC1, by decide +kernel⟩, saC1, eC1, tC1, kC1⟩, i_BadRow := iC1, t_BadRow := tI1, Fi_BadRow := FI1, bi_BadRow := BI1, e_BadRow := exm_of eC1 isC1 tC1 sC1,
    x_BadPaper := ⟨gaC2, ggC2, eC2, hdC2⟩, n_BadPaper_part := nC2part, n_BadPaper_number := nC2number, kv_BadPaper := ⟨kit_ownB kit_meta5.1 sv2x0, kit_ownB kit_meta5.2.1 sv2x1, kit_ownB kit_meta5.2.2.1 sv2x2, kit_ownB kit_meta5.2.2.2.1 sv2x3, kit_ownB kit_meta5.2.2.2.2 sv2x4, True.intro⟩, kb_BadPaper := ⟨fun s us ws _ hl hk => .of_eq (match us, hl, ws, hk with | [_], _, [_, _], _ => rfl), fun r rz => r.append (vals_rev rz)⟩, X_BadPaper := ⟨gaC2, ggC2, eC2, hdC2, haC2, hnO, htO, hmC2⟩, e_BadPaper_BadCoder := exm_of eC0 isC0 tC0 sC2x0, e_BadPaper_BadRow := exm_of eC1 isC1 tC1 sC2x1, e_BadPaper_BadByte := exm_of eC3 isC3 tC3 sC2x3, e_BadPaper_OutOfPlace := exm_of eC4 isC4 tC4 sC2x4, e_BadPaper_NoSeam := exm_of eC5 isC5 tC5 sC2x5, e_BadPaper_TooGreat := exm_of eC6 isC6 tC6 sC2x6, e_BadPaper_Nothing := exm_of eC7 isC7 tC7 sC2x7, em_BadPaper := ⟨exm_of eC0 isC0 tC0 sC2x0, exm_of eC1 isC1 tC1 sC2x1, exm_of eC2 isC2 tC2 sC2, exm_of eC3 isC3 tC3 sC2x3, exm_of eC6 isC6 tC6 sC2x6, exm_of eC4 isC4 tC4 sC2x4, exm_of eC5 isC5 tC5 sC2x5, exm_of eC7 isC7 tC7 sC2x7, True.intro⟩, ks_BadPaper := ⟨kit_no isC0 tC0 sC2 sC2x0, kit_no isC1 tC1 sC2 sC2x1, kit_self, kit_no isC3 tC3 sC2 sC2x3, kit_no isC6 tC6 sC2 sC2x6, kit_no isC4 tC4 sC2 sC2x4, kit_no isC5 tC5 sC2 sC2x5, kit_no isC7 tC7 sC2 sC2x7, True.intro⟩,
    C_BadPaper := C2, fi_BadPaper := g2, di_BadPaper := _, g_BadPaper := PySem.W.mg_of X G aC2, o_BadPaper := ⟨⟨_, _, _, _, _, _, _, _, _, _, _, _, _, _, _, xC2, by decide +kernel⟩, saC2, eC2, tC2, kC2⟩, i_BadPaper := iC2, t_BadPaper := tI2, Fi_BadPaper := FI2, bi_BadPaper := BI2, e_BadPaper := exm_of eC2 isC2 tC2 sC2,
    x_BadByte := ⟨gaC3, ggC3, eC3, hdC3⟩, n_BadByte_number := nC3number, kv_BadByte := ⟨kit_ownB kit_meta5.1 sv3x0, kit_ownB kit_meta5.2.1 sv3x1, kit_ownB kit_meta5.2.2.1 sv3x2, kit_ownB kit_meta5.2.2.2.1 sv3x3, kit_ownB kit_meta5.2.2.2.2 sv3x4, True.intro⟩, kb_BadByte := ⟨fun s us ws _ hl hk => .of_eq (match us, hl, ws, hk with | [_], _, [_], _ => rfl), fun r rz => r.append (vals_rev rz)⟩, X_BadByte := ⟨gaC3, ggC3, eC3, hdC3, haC3, hnO, htO, hmC3⟩, e_BadByte_BadCoder := exm_of eC0 isC0 tC0 sC3x0, e_BadByte_BadRow := exm_of eC1 isC1 tC1 sC3x1, e_BadByte_BadPaper := exm_of eC2 isC2 tC2 sC3x2, e_BadByte_OutOfPlace := exm_of eC4 isC4 tC4 sC3x4, e_BadByte_NoSeam := exm_of eC5 isC5 tC5 sC3x5, e_BadByte_TooGreat := exm_of eC6 isC6 tC6 sC3x6, e_BadByte_Nothing := exm_of eC7 isC7 tC7 sC3x7, em_BadByte := ⟨exm_of eC0 isC0 tC0 sC3x0, exm_of eC1 isC1 tC1 sC3x1, exm_of eC2 isC2 tC2 sC3x2, exm_of eC3 isC3 tC3 sC3, exm_of eC6 isC6 tC6 sC3x6, exm_of eC4 isC4 tC4 sC3x4, exm_of eC5 isC5 tC5 sC3x5, exm_of eC7 isC7 tC7 sC3x7, True.intro⟩, ks_BadByte := ⟨kit_no isC0 tC0 sC3 sC3x0, kit_no isC1 tC1 sC3 sC3x1, kit_no isC2 tC2 sC3 sC3x2, kit_self, kit_no isC6 tC6 sC3 sC3x6, kit_no isC4 tC4 sC3 sC3x4, kit_no isC5 tC5 sC3 sC3x5, kit_no isC7 tC7 sC3 sC3x7, True.intro⟩,
    C_BadByte := C3, fi_BadByte := g3, di_BadByte := _, g_BadByte := PySem.W.mg_of X G aC3, o_BadByte := ⟨⟨_, _, _, _, _, _, _, _, _, _, _, _, _, _, _, xC3, by decide +kernel⟩, saC3, eC3, tC3, kC3⟩, i_BadByte := iC3, t_BadByte := tI3, Fi_BadByte := FI3, bi_BadByte := BI3, e_BadByte := exm_of eC3 isC3 tC3 sC3,
    x_OutOfPlace := ⟨gaC4, ggC4, eC4, hdC4⟩, kv_OutOfPlace := ⟨kit_ownB kit_meta5.1 sv4x0, kit_ownB kit_meta5.2.1 sv4x1, kit_ownB kit_meta5.2.2.1 sv4x2, kit_ownB kit_meta5.2.2.2.1 sv4x3, kit_ownB kit_meta5.2.2.2.2 sv4x4, True.intro⟩, kb_OutOfPlace := ⟨fun s us ws _ hl hk => .of_eq (match us, hl, ws, hk with | [_], _, [_], _ => rfl), fun r rz => r.append (vals_rev rz)⟩, X_OutOfPlace := ⟨gaC4, ggC4, eC4, hdC4, haC4, hnO, htO, hmC4⟩, e_OutOfPlace_BadCoder := exm_of eC0 isC0 tC0 sC4x0, e_OutOfPlace_BadRow := exm_of eC1 isC1 tC1 sC4x1, e_OutOfPlace_BadPaper := exm_of eC2 isC2 tC2 sC4x2, e_OutOfPlace_BadByte := exm_of eC3 isC3 tC3 sC4x3, e_OutOfPlace_NoSeam := exm_of eC5 isC5 tC5 sC4x5, e_OutOfPlace_TooGreat := exm_of eC6 isC6 tC6 sC4x6, e_OutOfPlace_Nothing := exm_of eC7 isC7 tC7 sC4x7, em_OutOfPlace := ⟨exm_of eC0 isC0 tC0 sC4x0, exm_of eC1 isC1 tC1 sC4x1, exm_of eC2 isC2 tC2 sC4x2, exm_of eC3 isC3 tC3 sC4x3, exm_of eC6 isC6 tC6 sC4x6, exm_of eC4 isC4 tC4 sC4, exm_of eC5 isC5 tC5 sC4x5, exm_of eC7 isC7 tC7 sC4x7, True.intro⟩, ks_OutOfPlace := ⟨kit_no isC0 tC0 sC4 sC4x0, kit_no isC1 tC1 sC4 sC4x1, kit_no isC2 tC2 sC4 sC4x2, kit_no isC3 tC3 sC4 sC4x3, kit_no isC6 tC6 sC4 sC4x6, kit_self, kit_no isC5 tC5 sC4 sC4x5, kit_no isC7 tC7 sC4 sC4x7, True.intro⟩,
    C_OutOfPlace := C4, fi_OutOfPlace := g4, di_OutOfPlace := _, g_OutOfPlace := PySem.W.mg_of X G aC4, o_OutOfPlace := ⟨⟨_, _, _, _, _, _, _, _, _, _, _, _, _, _, _, xC4, by decide +kernel⟩, saC4, eC4, tC4, kC4⟩, i_OutOfPlace := iC4, t_OutOfPlace := tI4, Fi_OutOfPlace := FI4, bi_OutOfPlace := BI4, e_OutOfPlace := exm_of eC4 isC4 tC4 sC4,
    x_NoSeam := ⟨gaC5, ggC5, eC5, hdC5⟩, kv_NoSeam := ⟨kit_ownB kit_meta5.1 sv5x0, kit_ownB kit_meta5.2.1 sv5x1, kit_ownB kit_meta5.2.2.1 sv5x2, kit_ownB kit_meta5.2.2.2.1 sv5x3, kit_ownB kit_meta5.2.2.2.2 sv5x4, True.intro⟩, kb_NoSeam := ⟨fun s us ws _ hl hk => .of_eq (match us, hl, ws, hk with | [_], _, [_], _ => rfl), fun r rz => r.append (vals_rev rz)⟩, X_NoSeam := ⟨gaC5, ggC5, eC5, hdC5, haC5, hnO, htO, hmC5⟩, e_NoSeam_BadCoder := exm_of eC0 isC0 tC0 sC5x0, e_NoSeam_BadRow := exm_of eC1 isC1 tC1 sC5x1, e_NoSeam_BadPaper := exm_of eC2 isC2 tC2 sC5x2, e_NoSeam_BadByte := exm_of eC3 isC3 tC3 sC5x3, e_NoSeam_OutOfPlace := exm_of eC4 isC4 tC4 sC5x4, e_NoSeam_TooGreat := exm_of eC6 isC6 tC6 sC5x6, e_NoSeam_Nothing := exm_of eC7 isC7 tC7 sC5x7, em_NoSeam := ⟨exm_of eC0 isC0 tC0 sC5x0, exm_of eC1 isC1 tC1 sC5x1, exm_of eC2 isC2 tC2 sC5x2, exm_of eC3 isC3 tC3 sC5x3, exm_of eC6 isC6 tC6 sC5x6, exm_of eC4 isC4 tC4 sC5x4, exm_of eC5 isC5 tC5 sC5, exm_of eC7 isC7 tC7 sC5x7, True.intro⟩, ks_NoSeam := ⟨kit_no isC0 tC0 sC5 sC5x0, kit_no isC1 tC1 sC5 sC5x1, kit_no isC2 tC2 sC5 sC5x2, kit_no isC3 tC3 sC5 sC5x3, kit_no isC6 tC6 sC5 sC5x6, kit_no isC4 tC4 sC5 sC5x4, kit_self, kit_no isC7 tC7 sC5 sC5x7, True.intro⟩,
    C_NoSeam := C5, fi_NoSeam := g5, di_NoSeam := _, g_NoSeam := PySem.W.mg_of X G aC5, o_NoSeam := ⟨⟨_, _, _, _, _, _, _, _, _, _, _, _, _, _, _, xC5, by decide +kernel⟩, saC5, eC5, tC5, kC5⟩, i_NoSeam := iC5, t_NoSeam := tI5, Fi_NoSeam := FI5, bi_NoSeam := BI5, e_NoSeam := exm_of eC5 isC5 tC5 sC5,
    x_TooGreat := ⟨gaC6, ggC6, eC6, hdC6⟩, n_TooGreat_most := nC6most, kv_TooGreat := ⟨kit_ownB kit_meta5.1 sv6x0, kit_ownB kit_meta5.2.1 sv6x1, kit_ownB kit_meta5.2.2.1 sv6x2, kit_ownB kit_meta5.2.2.2.1 sv6x3, kit_ownB kit_meta5.2.2.2.2 sv6x4, True.intro⟩, kb_TooGreat := ⟨fun s us ws _ hl hk => .of_eq (match us, hl, ws, hk with | [_], _, [_], _ => rfl), fun r rz => r.append (vals_rev rz)⟩, X_TooGreat := ⟨gaC6, ggC6, eC6, hdC6, haC6, hnO, htO, hmC6⟩, e_TooGreat_BadCoder := exm_of eC0 isC0 tC0 sC6x0, e_TooGreat_BadRow := exm_of eC1 isC1 tC1 sC6x1, e_TooGreat_BadPaper := exm_of eC2 isC2 tC2 sC6x2, e_TooGreat_BadByte := exm_of eC3 isC3 tC3 sC6x3, e_TooGreat_OutOfPlace := exm_of eC4 isC4 tC4 sC6x4, e_TooGreat_NoSeam := exm_of eC5 isC5 tC5 sC6x5, e_TooGreat_Nothing := exm_of eC7 isC7 tC7 sC6x7, em_TooGreat := ⟨exm_of eC0 isC0 tC0 sC6x0, exm_of eC1 isC1 tC1 sC6x1, exm_of eC2 isC2 tC2 sC6x2, exm_of eC3 isC3 tC3 sC6x3, exm_of eC6 isC6 tC6 sC6, exm_of eC4 isC4 tC4 sC6x4, exm_of eC5 isC5 tC5 sC6x5, exm_of eC7 isC7 tC7 sC6x7, True.intro⟩, ks_TooGreat := ⟨kit_no isC0 tC0 sC6 sC6x0, kit_no isC1 tC1 sC6 sC6x1, kit_no isC2 tC2 sC6 sC6x2, kit_no isC3 tC3 sC6 sC6x3, kit_self, kit_no isC4 tC4 sC6 sC6x4, kit_no isC5 tC5 sC6 sC6x5, kit_no isC7 tC7 sC6 sC6x7, True.intro⟩,
    C_TooGreat := C6, fi_TooGreat := g6, di_TooGreat := _, g_TooGreat := PySem.W.mg_of X G aC6, o_TooGreat := ⟨⟨_, _, _, _, _, _, _, _, _, _, _, _, _, _, xC6⟩, saC6, eC6, tC6, kC6⟩, i_TooGreat := iC6, t_TooGreat := tI6, Fi_TooGreat := FI6, bi_TooGreat := BI6, e_TooGreat := exm_of eC6 isC6 tC6 sC6,
    x_Nothing := ⟨gaC7, ggC7, eC7, hdC7⟩, kv_Nothing := ⟨kit_ownB kit_meta5.1 sv7x0, kit_ownB kit_meta5.2.1 sv7x1, kit_ownB kit_meta5.2.2.1 sv7x2, kit_ownB kit_meta5.2.2.2.1 sv7x3, kit_ownB kit_meta5.2.2.2.2 sv7x4, True.intro⟩, kb_Nothing := ⟨fun s us ws _ hl hk => .of_eq (match us, hl, ws, hk with | [_], _, [_], _ => rfl), fun r rz => r.append (vals_rev rz)⟩, X_Nothing := ⟨gaC7, ggC7, eC7, hdC7, haC7, hnO, htO, hmC7⟩, e_Nothing_BadCoder := exm_of eC0 isC0 tC0 sC7x0, e_Nothing_BadRow := exm_of eC1 isC1 tC1 sC7x1, e_Nothing_BadPaper := exm_of eC2 isC2 tC2 sC7x2, e_Nothing_BadByte := exm_of eC3 isC3 tC3 sC7x3, e_Nothing_OutOfPlace := exm_of eC4 isC4 tC4 sC7x4, e_Nothing_NoSeam := exm_of eC5 isC5 tC5 sC7x5, e_Nothing_TooGreat := exm_of eC6 isC6 tC6 sC7x6, em_Nothing := ⟨exm_of eC0 isC0 tC0 sC7x0, exm_of eC1 isC1 tC1 sC7x1, exm_of eC2 isC2 tC2 sC7x2, exm_of eC3 isC3 tC3 sC7x3, exm_of eC6 isC6 tC6 sC7x6, exm_of eC4 isC4 tC4 sC7x4, exm_of eC5 isC5 tC5 sC7x5, exm_of eC7 isC7 tC7 sC7, True.intro⟩, ks_Nothing := ⟨kit_no isC0 tC0 sC7 sC7x0, kit_no isC1 tC1 sC7 sC7x1, kit_no isC2 tC2 sC7 sC7x2, kit_no isC3 tC3 sC7 sC7x3, kit_no isC6 tC6 sC7 sC7x6, kit_no isC4 tC4 sC7 sC7x4, kit_no isC5 tC5 sC7 sC7x5, kit_self, True.intro⟩,
    C_Nothing := C7, fi_Nothing := g7, di_Nothing := _, g_Nothing := PySem.W.mg_of X G aC7, o_Nothing := ⟨⟨_, _, _, _, _, _, _, _, _, _, _, _, _, _, xC7⟩, saC7, eC7, tC7, kC7⟩, i_Nothing := iC7, t_Nothing := tI7, Fi_Nothing := FI7, bi_Nothing := BI7, e_Nothing := exm_of eC7 isC7 tC7 sC7,
    vL := vL, zL := PySem.W.mg_none_of X G zL,
    vV := vV, zV := PySem.W.mg_none_of X G zV }
  exact ⟨_, fun s v => .of_eq rfl, fun base _ _ => ok_law T⟩
end My
open PySem PySem.W PyProof.Rows
set_option maxRecDepth 100000 in
set_option maxHeartbeats 0 in
theorem PySem.Challenge.cw_stepsound_k01_errors_holds : PySem.Challenge.rw_stepsound_k01_errors.Holds := by
  w_on; o_law; k_head; (case hw => w_witness2)
  k_fill
  refine My.walk_ofG (l := PySem.Challenge.rw_stepsound_k01_errors) (n := 63) (k := 7) (x := "script") (sp := fun K => My.sp_law (K := K)) rfl (by decide) rfl ⟨rfl, by decide, by decide⟩ (fun w h Y => PySem.W.kIn_of Y) ?F (fun K H a ns hl _ hS => ⟨a, ns, rfl, hS, hl, fun _ => rfl⟩)
  case F =>
    intro w mg fa h KX G hmg
    refine' My.all_mk KX G hmg ?a0 ?l0 ?c0 ?k0 ?a1 ?l1 ?c1 ?k1 ?a2 ?l2 ?c2 ?k2 ?a3 ?l3 ?c3 ?k3 ?a4 ?l4 ?c4 ?k4 ?a5 ?l5 ?c5 ?k5 ?a6 ?l6 ?c6 ?k6 ?z_IndexError ?z_KeyError ?z_LookupError ?z_OverflowError ?z_ValueError ?z_enumerate ?z_int ?z_isinstance ?z_len ?z_list ?z_min ?z_range ?z_repr ?aC0 ?xC0 ?saC0 ?iC0 ?tI0 ?lC0 ?cC0 ?kI0 ?kC0 ?eC0 ?tC0 ?isC0 ?sC0 ?gaC0 ?ggC0 ?hdC0 ?nC0part ?nC0number ?sv0x0 ?sv0x1 ?sv0x2 ?sv0x3 ?sv0x4 ?haC0 ?hmC0 ?aC1 ?xC1 ?saC1 ?iC1 ?tI1 ?lC1 ?cC1 ?kI1 ?kC1 ?eC1 ?tC1 ?isC1 ?sC1 ?gaC1 ?ggC1 ?hdC1 ?nC1row ?nC1word ?sv1x0 ?sv1x1 ?sv1x2 ?sv1x3 ?sv1x4 ?haC1 ?hmC1 ?aC2 ?xC2 ?saC2 ?iC2 ?tI2 ?lC2 ?cC2 ?kI2 ?kC2 ?eC2 ?tC2 ?isC2 ?sC2 ?gaC2 ?ggC2 ?hdC2 ?nC2part ?nC2number ?sv2x0 ?sv2x1 ?sv2x2 ?sv2x3 ?sv2x4 ?haC2 ?hmC2 ?aC3 ?xC3 ?saC3 ?iC3 ?tI3 ?lC3 ?cC3 ?kI3 ?kC3 ?eC3 ?tC3 ?isC3 ?sC3 ?gaC3 ?ggC3 ?hdC3 ?nC3number ?sv3x0 ?sv3x1 ?sv3x2 ?sv3x3 ?sv3x4 ?haC3 ?hmC3 ?aC4 ?xC4 ?saC4 ?iC4 ?tI4 ?lC4 ?cC4 ?kI4 ?kC4 ?eC4 ?tC4 ?isC4 ?sC4 ?gaC4 ?ggC4 ?hdC4 ?sv4x0 ?sv4x1 ?sv4x2 ?sv4x3 ?sv4x4 ?haC4 ?hmC4 ?aC5 ?xC5 ?saC5 ?iC5 ?tI5 ?lC5 ?cC5 ?kI5 ?kC5 ?eC5 ?tC5 ?isC5 ?sC5 ?gaC5 ?ggC5 ?hdC5 ?sv5x0 ?sv5x1 ?sv5x2 ?sv5x3 ?sv5x4 ?haC5 ?hmC5 ?aC6 ?xC6 ?saC6 ?iC6 ?tI6 ?lC6 ?cC6 ?kI6 ?kC6 ?eC6 ?tC6 ?isC6 ?sC6 ?gaC6 ?ggC6 ?hdC6 ?nC6most ?sv6x0 ?sv6x1 ?sv6x2 ?sv6x3 ?sv6x4 ?haC6 ?hmC6 ?aC7 ?xC7 ?saC7 ?iC7 ?tI7 ?lC7 ?cC7 ?kI7 ?kC7 ?eC7 ?tC7 ?isC7 ?sC7 ?gaC7 ?ggC7 ?hdC7 ?sv7x0 ?sv7x1 ?sv7x2 ?sv7x3 ?sv7x4 ?haC7 ?hmC7 ?hnO ?htO ?sC0x1 ?sC0x2 ?sC0x3 ?sC0x4 ?sC0x5 ?sC0x6 ?sC0x7 ?sC1x0 ?sC1x2 ?sC1x3 ?sC1x4 ?sC1x5 ?sC1x6 ?sC1x7 ?sC2x0 ?sC2x1 ?sC2x3 ?sC2x4 ?sC2x5 ?sC2x6 ?sC2x7 ?sC3x0 ?sC3x1 ?sC3x2 ?sC3x4 ?sC3x5 ?sC3x6 ?sC3x7 ?sC4x0 ?sC4x1 ?sC4x2 ?sC4x3 ?sC4x5 ?sC4x6 ?sC4x7 ?sC5x0 ?sC5x1 ?sC5x2 ?sC5x3 ?sC5x4 ?sC5x6 ?sC5x7 ?sC6x0 ?sC6x1 ?sC6x2 ?sC6x3 ?sC6x4 ?sC6x5 ?sC6x7 ?sC7x0 ?sC7x1 ?sC7x2 ?sC7x3 ?sC7x4 ?sC7x5 ?sC7x6 ?vL ?zL ?vV ?zV
    (case a0 => k_is)
    (case l0 => k_is)
    (case c0 => k_is)
    (case k0 => k_is)
    (case a1 => k_is)
    (case l1 => k_is)
    (case c1 => k_is)
    (case k1 => k_is)
    (case a2 => k_is)
    (case l2 => k_is)
    (case c2 => k_is)
    (case k2 => k_is)
    (case a3 => k_is)
    (case l3 => k_is)
    (case c3 => k_is)
    (case k3 => k_is)
    (case a4 => k_is)
    (case l4 => k_is)
    (case c4 => k_is)
    (case k4 => k_is)
    (case a5 => k_is)
    (case l5 => k_is)
    (case c5 => k_is)
    (case k5 => k_is)
    (case a6 => k_is)
    (case l6 => k_is)
    (case c6 => k_is)
    (case k6 => k_is)
    (case z_IndexError => k_is)
    (case z_KeyError => k_is)
    (case z_LookupError => k_is)
    (case z_OverflowError => k_is)
    (case z_ValueError => k_is)
    (case z_enumerate => k_is)
    (case z_int => k_is)
    (case z_isinstance => k_is)
    (case z_len => k_is)
    (case z_list => k_is)
    (case z_min => k_is)
    (case z_range => k_is)
    (case z_repr => k_is)
    (case aC0 => k_is)
    (case xC0 => k_is)
    (case saC0 => k_is)
    (case iC0 => k_is)
    (case tI0 => k_is)
    (case lC0 => k_is)
    (case cC0 => k_is)
    (case kI0 => k_is)
    (case kC0 => k_is)
    (case eC0 => k_is)
    (case tC0 => k_is)
    (case isC0 => k_is)
    (case sC0 => first | rfl | k_is | decide +kernel)
    (case gaC0 => k_is)
    (case ggC0 => k_is)
    (case hdC0 => k_is)
    (case nC0part => k_is)
    (case nC0number => k_is)
    (case sv0x0 => k_is)
    (case sv0x1 => k_is)
    (case sv0x2 => k_is)
    (case sv0x3 => k_is)
    (case sv0x4 => k_is)
    (case haC0 => k_is)
    (case hmC0 => k_is)
    (case aC1 => k_is)
    (case xC1 => k_is)
    (case saC1 => k_is)
    (case iC1 => k_is)
    (case tI1 => k_is)
    (case lC1 => k_is)
    (case cC1 => k_is)
    (case kI1 => k_is)
    (case kC1 => k_is)
    (case eC1 => k_is)
    (case tC1 => k_is)
    (case isC1 => k_is)
    (case sC1 => first | rfl | k_is | decide +kernel)
    (case gaC1 => k_is)
    (case ggC1 => k_is)
    (case hdC1 => k_is)
    (case nC1row => k_is)
    (case nC1word => k_is)
    (case sv1x0 => k_is)
    (case sv1x1 => k_is)
    (case sv1x2 => k_is)
    (case sv1x3 => k_is)
    (case sv1x4 => k_is)
    (case haC1 => k_is)
    (case hmC1 => k_is)
    (case aC2 => k_is)
    (case xC2 => k_is)
    (case saC2 => k_is)
    (case iC2 => k_is)
    (case tI2 => k_is)
    (case lC2 => k_is)
    (case cC2 => k_is)
    (case kI2 => k_is)
    (case kC2 => k_is)
    (case eC2 => k_is)
    (case tC2 => k_is)
    (case isC2 => k_is)
    (case sC2 => first | rfl | k_is | decide +kernel)
    (case gaC2 => k_is)
    (case ggC2 => k_is)
    (case hdC2 => k_is)
    (case nC2part => k_is)
    (case nC2number => k_is)
    (case sv2x0 => k_is)
    (case sv2x1 => k_is)
    (case sv2x2 => k_is)
    (case sv2x3 => k_is)
    (case sv2x4 => k_is)
    (case haC2 => k_is)
    (case hmC2 => k_is)
    (case aC3 => k_is)
    (case xC3 => k_is)
    (case saC3 => k_is)
    (case iC3 => k_is)
    (case tI3 => k_is)
    (case lC3 => k_is)
    (case cC3 => k_is)
    (case kI3 => k_is)
    (case kC3 => k_is)
    (case eC3 => k_is)
    (case tC3 => k_is)
    (case isC3 => k_is)
    (case sC3 => first | rfl | k_is | decide +kernel)
    (case gaC3 => k_is)
    (case ggC3 => k_is)
    (case hdC3 => k_is)
    (case nC3number => k_is)
    (case sv3x0 => k_is)
    (case sv3x1 => k_is)
    (case sv3x2 => k_is)
    (case sv3x3 => k_is)
    (case sv3x4 => k_is)
    (case haC3 => k_is)
    (case hmC3 => k_is)
    (case aC4 => k_is)
    (case xC4 => k_is)
    (case saC4 => k_is)
    (case iC4 => k_is)
    (case tI4 => k_is)
    (case lC4 => k_is)
    (case cC4 => k_is)
    (case kI4 => k_is)
    (case kC4 => k_is)
    (case eC4 => k_is)
    (case tC4 => k_is)
    (case isC4 => k_is)
    (case sC4 => first | rfl | k_is | decide +kernel)
    (case gaC4 => k_is)
    (case ggC4 => k_is)
    (case hdC4 => k_is)
    (case sv4x0 => k_is)
    (case sv4x1 => k_is)
    (case sv4x2 => k_is)
    (case sv4x3 => k_is)
    (case sv4x4 => k_is)
    (case haC4 => k_is)
    (case hmC4 => k_is)
    (case aC5 => k_is)
    (case xC5 => k_is)
    (case saC5 => k_is)
    (case iC5 => k_is)
    (case tI5 => k_is)
    (case lC5 => k_is)
    (case cC5 => k_is)
    (case kI5 => k_is)
    (case kC5 => k_is)
    (case eC5 => k_is)
    (case tC5 => k_is)
    (case isC5 => k_is)
    (case sC5 => first | rfl | k_is | decide +kernel)
    (case gaC5 => k_is)
    (case ggC5 => k_is)
    (case hdC5 => k_is)
    (case sv5x0 => k_is)
    (case sv5x1 => k_is)
    (case sv5x2 => k_is)
    (case sv5x3 => k_is)
    (case sv5x4 => k_is)
    (case haC5 => k_is)
    (case hmC5 => k_is)
    (case aC6 => k_is)
    (case xC6 => k_is)
    (case saC6 => k_is)
    (case iC6 => k_is)
    (case tI6 => k_is)
    (case lC6 => k_is)
    (case cC6 => k_is)
    (case kI6 => k_is)
    (case kC6 => k_is)
    (case eC6 => k_is)
    (case tC6 => k_is)
    (case isC6 => k_is)
    (case sC6 => first | rfl | k_is | decide +kernel)
    (case gaC6 => k_is)
    (case ggC6 => k_is)
    (case hdC6 => k_is)
    (case nC6most => k_is)
    (case sv6x0 => k_is)
    (case sv6x1 => k_is)
    (case sv6x2 => k_is)
    (case sv6x3 => k_is)
    (case sv6x4 => k_is)
    (case haC6 => k_is)
    (case hmC6 => k_is)
    (case aC7 => k_is)
    (case xC7 => k_is)
    (case saC7 => k_is)
    (case iC7 => k_is)
    (case tI7 => k_is)
    (case lC7 => k_is)
    (case cC7 => k_is)
    (case kI7 => k_is)
    (case kC7 => k_is)
    (case eC7 => k_is)
    (case tC7 => k_is)
    (case isC7 => k_is)
    (case sC7 => first | rfl | k_is | decide +kernel)
    (case gaC7 => k_is)
    (case ggC7 => k_is)
    (case hdC7 => k_is)
    (case sv7x0 => k_is)
    (case sv7x1 => k_is)
    (case sv7x2 => k_is)
    (case sv7x3 => k_is)
    (case sv7x4 => k_is)
    (case haC7 => k_is)
    (case hmC7 => k_is)
    (case hnO => k_is)
    (case htO => k_is)
    (case sC0x1 => first | rfl | k_is | decide +kernel)
    (case sC0x2 => first | rfl | k_is | decide +kernel)
    (case sC0x3 => first | rfl | k_is | decide +kernel)
    (case sC0x4 => first | rfl | k_is | decide +kernel)
    (case sC0x5 => first | rfl | k_is | decide +kernel)
    (case sC0x6 => first | rfl | k_is | decide +kernel)
    (case sC0x7 => first | rfl | k_is | decide +kernel)
    (case sC1x0 => first | rfl | k_is | decide +kernel)
    (case sC1x2 => first | rfl | k_is | decide +kernel)
    (case sC1x3 => first | rfl | k_is | decide +kernel)
    (case sC1x4 => first | rfl | k_is | decide +kernel)
    (case sC1x5 => first | rfl | k_is | decide +kernel)
    (case sC1x6 => first | rfl | k_is | decide +kernel)
    (case sC1x7 => first | rfl | k_is | decide +kernel)
    (case sC2x0 => first | rfl | k_is | decide +kernel)
    (case sC2x1 => first | rfl | k_is | decide +kernel)
    (case sC2x3 => first | rfl | k_is | decide +kernel)
    (case sC2x4 => first | rfl | k_is | decide +kernel)
    (case sC2x5 => first | rfl | k_is | decide +kernel)
    (case sC2x6 => first | rfl | k_is | decide +kernel)
    (case sC2x7 => first | rfl | k_is | decide +kernel)
    (case sC3x0 => first | rfl | k_is | decide +kernel)
    (case sC3x1 => first | rfl | k_is | decide +kernel)
    (case sC3x2 => first | rfl | k_is | decide +kernel)
    (case sC3x4 => first | rfl | k_is | decide +kernel)
    (case sC3x5 => first | rfl | k_is | decide +kernel)
    (case sC3x6 => first | rfl | k_is | decide +kernel)
    (case sC3x7 => first | rfl | k_is | decide +kernel)
    (case sC4x0 => first | rfl | k_is | decide +kernel)
    (case sC4x1 => first | rfl | k_is | decide +kernel)
    (case sC4x2 => first | rfl | k_is | decide +kernel)
    (case sC4x3 => first | rfl | k_is | decide +kernel)
    (case sC4x5 => first | rfl | k_is | decide +kernel)
    (case sC4x6 => first | rfl | k_is | decide +kernel)
    (case sC4x7 => first | rfl | k_is | decide +kernel)
    (case sC5x0 => first | rfl | k_is | decide +kernel)
    (case sC5x1 => first | rfl | k_is | decide +kernel)
    (case sC5x2 => first | rfl | k_is | decide +kernel)
    (case sC5x3 => first | rfl | k_is | decide +kernel)
    (case sC5x4 => first | rfl | k_is | decide +kernel)
    (case sC5x6 => first | rfl | k_is | decide +kernel)
    (case sC5x7 => first | rfl | k_is | decide +kernel)
    (case sC6x0 => first | rfl | k_is | decide +kernel)
    (case sC6x1 => first | rfl | k_is | decide +kernel)
    (case sC6x2 => first | rfl | k_is | decide +kernel)
    (case sC6x3 => first | rfl | k_is | decide +kernel)
    (case sC6x4 => first | rfl | k_is | decide +kernel)
    (case sC6x5 => first | rfl | k_is | decide +kernel)
    (case sC6x7 => first | rfl | k_is | decide +kernel)
    (case sC7x0 => first | rfl | k_is | decide +kernel)
    (case sC7x1 => first | rfl | k_is | decide +kernel)
    (case sC7x2 => first | rfl | k_is | decide +kernel)
    (case sC7x3 => first | rfl | k_is | decide +kernel)
    (case sC7x4 => first | rfl | k_is | decide +kernel)
    (case sC7x5 => first | rfl | k_is | decide +kernel)
    (case sC7x6 => first | rfl | k_is | decide +kernel)
    (case vL => first | rfl | k_is | decide +kernel)
    (case zL => k_is)
    (case vV => first | rfl | k_is | decide +kernel)
    (case zV => k_is)


