import PyProof.Rows.All
import Wide.All
import OpenK.AllK
import Wide.FinOn
import HandS.ForMost
import HandS.Wide
import HandS.IsInst
import HandS.TupAny
import HandS.Conv
import KE.GoesMore
import KE.GoesEnum
import HandS.ForExc
import HandS.ExcInit
import HandS.ExcField
import HandS.TryMany
import HandS.TupMul
import HandS.Text
import HandS.FStr
import PyProof.StrOps2
import PyProof.NeKinds
import HandS.Defaults
import HandS.Walk
import PySem.Challenge.RW_stepsound_k26_whole_wrong_texts_of_coder
set_option Elab.async false
set_option linter.all false
set_option maxRecDepth 100000
namespace My
open PySem PySem.Spec PyProof.Rows L2

/-! ### heaps -/
theorem same_new {H : Hp} {p : Addr} {o : HO} (h : H p = none) : Same H (upd H p o) := fun b x e => by
  rw [upd_ne (ne_of_none e h)]
  exact e
theorem same_tup {K : PySem.W.Frag} {H H' : Hp} {a : Addr} {xs : List V} (e : Same H H') (h : SqT K H a xs) : SqT K H' a xs := by
  rcases h with (h | ⟨o, h⟩) | h
  · exact .inl (.inl (e _ _ h))
  · exact .inl (.inr ⟨o, e _ _ h⟩)
  · exact .inr h
/-- every tuple stands -/
def TupS (H H' : Hp) : Prop := ∀ b xs, H b = some (.tup xs) → H' b = some (.tup xs)
theorem Same.tupS {H H' : Hp} (e : Same H H') : TupS H H' := fun b xs h => e b _ h

/-! ### rules within a comprehension: the written part by its own name -/
theorem ix_tupK {X : Cx} {K : PySem.W.Frag} (h : X.K = K := by rfl) : IxR X (rIxT K) := by
  subst h
  exact ix_tup
theorem ix_listK {X : Cx} {K : PySem.W.Frag} (h : X.K = K := by rfl) : IxR X (rIxL K) := by
  subst h
  exact ix_list
def rLen (K : PySem.W.Frag) : List V → Hp → VK → Prop := fun xs H Q => ∃ p ys, xs = [.ref p] ∧ (SqL K H p ys ∨ SqT K H p ys) ∧ Q (.int ys.length) H
theorem call_lenK {X : Cx} {K : PySem.W.Frag} (h : X.K = K := by rfl) : CallR X (.builtin "len") (rLen K) := by
  subst h
  exact call_len_seq
/-! ### the drawer of a law: a dict of two lists and a number -/
def dd (c l : Addr) (k : Int) : List (Key × V) := [(.inr "cells", .ref c), (.inr "left", .ref l), (.inr "at", .int k)]
theorem nCL : ¬ ((Sum.inr ("cells" : Str) : Key) = Sum.inr ("left" : Str)) := by decide +kernel
theorem nCA : ¬ ((Sum.inr ("cells" : Str) : Key) = Sum.inr ("at" : Str)) := by decide +kernel
theorem nLC : ¬ ((Sum.inr ("left" : Str) : Key) = Sum.inr ("cells" : Str)) := by decide +kernel
theorem nLA : ¬ ((Sum.inr ("left" : Str) : Key) = Sum.inr ("at" : Str)) := by decide +kernel
theorem nAC : ¬ ((Sum.inr ("at" : Str) : Key) = Sum.inr ("cells" : Str)) := by decide +kernel
theorem nAL : ¬ ((Sum.inr ("at" : Str) : Key) = Sum.inr ("left" : Str)) := by decide +kernel
theorem dd_c (c l : Addr) (k : Int) : valV (dd c l k) (.inr "cells") = some (.ref c) := valV_pos rfl
theorem dd_l (c l : Addr) (k : Int) : valV (dd c l k) (.inr "left") = some (.ref l) := (valV_neg nCL).trans (valV_pos rfl)
theorem dd_a (c l : Addr) (k : Int) : valV (dd c l k) (.inr "at") = some (.int k) := (valV_neg nCA).trans ((valV_neg nLA).trans (valV_pos rfl))
theorem sCL : ¬ (("cells" : Str) = "left") := by decide +kernel
theorem sCA : ¬ (("cells" : Str) = "at") := by decide +kernel
theorem sLA : ¬ (("left" : Str) = "at") := by decide +kernel
theorem sAL : ¬ (("at" : Str) = "left") := by decide +kernel
theorem dd_pl (c l l' : Addr) (k : Int) : putK (dd c l k) (.inr "left") (.ref l') = dd c l' k := by
  simp [putK, dd, sCL, sAL]
theorem dd_pa (c l : Addr) (k k' : Int) : putK (dd c l k) (.inr "at") (.int k') = dd c l k' := by
  simp [putK, dd, sCA, sLA]
theorem dd_mk (c l : Addr) : mergeK [] [(Sum.inr "cells", V.ref c), (Sum.inr "left", V.ref l), (Sum.inr "at", V.int 0)] = dd c l 0 := by
  simp [mergeK, putK, dd, sCL, sCA, sLA]

/-- at m the drawer with its lists at c and l, for n draws more -/
structure Dr (H : Hp) (m c l : Addr) (n : Nat) : Prop where
  ex : ∃ (cs ls : List Int) (k : Int), H m = some (.dK (dd c l k)) ∧ H c = some (.lst (cs.map V.int)) ∧ H l = some (.lst (ls.map V.int)) ∧ c ≠ l ∧
    cs.length ≤ 63 ∧ ls.length ≤ 63 ∧ (∀ x ∈ ls, 0 ≤ x) ∧ 0 ≤ k ∧ k + (n : Int) ≤ 1000000
/-- all but the drawer's own stands; its list of what is left is the old one or new -/
structure Kp (m l : Addr) (H : Hp) (l' : Addr) (H' : Hp) : Prop where
  st : ∀ b o, H b = some o → b ≠ m → b ≠ l → H' b = some o
  nw : l' = l ∨ H l' = none
  dm : ∀ b, H' b = none → H b = none
theorem Kp.refl (m l : Addr) (H : Hp) : Kp m l H l H := ⟨fun _ _ h _ _ => h, .inl rfl, fun _ h => h⟩
theorem Kp.off {m l l' : Addr} {H H' : Hp} (k : Kp m l H l' H') {b : Addr} {o : HO} (h : H b = some o) (n : b ≠ l) : b ≠ l' := by
  rcases k.nw with e | e
  · rw [e]; exact n
  · exact ne_of_none h e
theorem Kp.trans {m l l' l'' : Addr} {H H' H'' : Hp} (a : Kp m l H l' H') (b : Kp m l' H' l'' H'') : Kp m l H l'' H'' := by
  refine ⟨fun q o h n1 n2 => b.st q o (a.st q o h n1 n2) n1 (a.off h n2), ?_, fun q e => a.dm q (b.dm q e)⟩
  rcases b.nw with e | e
  · rw [e]; exact a.nw
  · exact .inr (a.dm _ e)
/-- a new object -/
theorem Kp.new {m l : Addr} {H : Hp} {p : Addr} {o : HO} (h : H p = none) : Kp m l H l (upd H p o) := by
  refine ⟨fun b u e _ _ => same_new h b u e, .inl rfl, fun b e => ?_⟩
  unfold upd at e
  split at e
  · cases e
  · exact e
theorem Dr.new {H : Hp} {m c l n : Nat} {p : Addr} {o : HO} (d : Dr H m c l n) (h : H p = none) : Dr (upd H p o) m c l n := by
  obtain ⟨cs, ls, k, h1, h2, h3, r⟩ := d.ex
  exact ⟨cs, ls, k, same_new h _ _ h1, same_new h _ _ h2, same_new h _ _ h3, r⟩
/-- a change of another object than the drawer's -/
theorem Dr.set {H : Hp} {m c l n : Nat} {p : Addr} {o : HO} (d : Dr H m c l n) (n1 : p ≠ m) (n2 : p ≠ c) (n3 : p ≠ l) : Dr (upd H p o) m c l n := by
  obtain ⟨cs, ls, k, h1, h2, h3, r⟩ := d.ex
  exact ⟨cs, ls, k, (upd_ne n1.symm).trans h1, (upd_ne n2.symm).trans h2, (upd_ne n3.symm).trans h3, r⟩
theorem Dr.less {H : Hp} {m c l n k : Nat} (d : Dr H m c l n) (h : k ≤ n) : Dr H m c l k := by
  obtain ⟨cs, ls, z, h1, h2, h3, h4, h5, h6, h7, h8, h9⟩ := d.ex
  exact ⟨cs, ls, z, h1, h2, h3, h4, h5, h6, h7, h8, by omega⟩
theorem Dr.same {H H' : Hp} {m c l n : Nat} (d : Dr H m c l n) (s : Same H H') : Dr H' m c l n := by
  obtain ⟨cs, ls, k, h1, h2, h3, r⟩ := d.ex
  exact ⟨cs, ls, k, s _ _ h1, s _ _ h2, s _ _ h3, r⟩
theorem Kp.same {m l : Addr} {H H' : Hp} (s : Same H H') : Kp m l H l H' := ⟨fun b o h _ _ => s b o h, .inl rfl, fun _ h => s.free h⟩
/-- tuples stand -/
theorem Kp.tup {m c l l' n : Addr} {H H' : Hp} (k : Kp m l H l' H') (d : Dr H m c l n) : TupS H H' := fun b xs h => by
  obtain ⟨cs, ls, z, h1, h2, h3, r⟩ := d.ex
  exact k.st b _ h (ne_of h h1 nofun) (ne_of h h3 nofun)
end My

/-! Defs that write out data (repr): their promise is asked only where nothing is being written out around them. -/
namespace My
open PySem PySem.Spec PyProof.Rows L2
/-- as the layer's promise of a def, for calls around which no guard stands -/
structure FnG (P : Program) (w : World) (K : PySem.W.Frag) (mg : Str → Option Value) (base : Heap) (k : Nat) (f : Addr) (fd : FuncData)
    (ps : List Str) (sp : Sp) : Prop where
  len : ∀ vs H Q E, sp vs H Q E → vs.length = ps.length
  go : ∀ (A : Around) (outer : List Env) (s : Shared) (H : Hp) (args : Args) (us : List Value) (vs : List V) (Q : VK) (E : XK),
    A.guards = some [] → Room k A → Env0 P w K mg base A outer s H → BindsTo s fd args (ps.zip us) → Vals vs us → sp vs H Q E →
    codeAny (model P w) A (.call (.ref f) args) (CR CX0 outer P w H s Q E) s
section
variable {P : Program} {w : World} {K : PySem.W.Frag} {mg : Str → Option Value} {base : Heap}
theorem FnG.of {k : Nat} {f : Addr} {fd : FuncData} {ps : List Str} {sp : Sp} (F : FnOk P w K mg base CX0 k f fd ps sp) : FnG P w K mg base k f fd ps sp :=
  ⟨F.len, fun A o s H args us vs Q E _ hr => F.run A o s H args us vs Q E hr⟩
theorem okG {x qual : Str} {st : Stmt} {f : Addr} {fd : FuncData} {N ps : List Str} {k : Nat} {sp : Sp} (F : Fun K x qual st f fd)
    (S : FnScope N ps (defScope st)) (len : ∀ vs H Q E, sp vs H Q E → vs.length = ps.length)
    (body : ∀ (cdv : Value) (A : Around) (outer : List Env) (s : Shared) (H : Hp) (vs : List V) (Q : VK) (E : XK), A.guards = some [] →
      Room k (A.deeper (envOfC qual (defScope st) s.heap.objs.size f cdv)) → sp vs H Q E →
      ∃ t, PSs (cxOf CX0 P w K mg base N qual (defScope st) f cdv A outer s H E).nox (defBody st) t ∧
        t { nx := fun _ H' => Q .non H', rt := Q } (start N vs) H) :
    FnG P w K mg base (k + 1) f fd ps sp := by
  obtain ⟨oc, od, kV, doc, pm, an, cdv, ct, osl, rfl, lk, hcd⟩ := F.ex
  refine ⟨len, fun A outer s H args us vs Q E hg room env0 binds rel want => ?_⟩
  have inK : K.In s.heap := env0.mod.kin.keeps fun b o e => (env0.bs b o e).1
  have noLim : s.heap.NoLimit := env0.mod.nolimit.keeps fun b o e => (env0.bs b o e).1
  have kinds : ∀ y ∈ ps.zip us, (defScope st).names.lookup y.1 = some .local ∨
      ((defScope st).names.lookup y.1 = some .cell ∧ ((cellsFrom (s.heap.objs.size + 1) (defScope st).names []).lookup y.1).isSome = true) := by
    rintro ⟨n, v⟩ hy
    rcases S.par n (List.of_mem_zip hy).1 with q | q
    · exact Or.inl q
    · exact Or.inr ⟨q, PySem.W.cellsFrom_some _ _ _ (Or.inl q)⟩
  refine codeAny_call_function room.depth (inK _ _ lk) rfl S.co S.gen rfl (PySem.W.codeRec_of inK hcd)
    (binds _ _ _ _ ?_)
  refine wpAny_newFunctionEnv_cells S.kind kinds
    fun env he s1 x => ?_
  subst he
  refine ⟨noLim.keeps x.toInCall.keep,
    codeAny_func ?_⟩
  obtain ⟨t, ht, run⟩ := body cdv A outer s H vs Q E hg (room.deeper _) want
  have start0 : Inv (cxOf CX0 P w K mg base N qual (defScope st) f cdv A outer s H E) [] (start N vs) H s1 :=
    inv_start S room.hd env0 (len _ _ _ _ want) rel x
  refine wpAny_mono (ht.nox.run [] s1 (start N vs) H _ start0 run)
    (fun flow s' hs => ?_) fun e s' hs => hs
  have fin : ∀ {σ' : L2.St} {H' : Hp} {v : V} {u : Value}, Inv (cxOf CX0 P w K mg base N qual (defScope st) f cdv A outer s H E) [] σ' H' s' →
      RelV v u → Q v H' → CE outer P w H s Q u s' :=
    fun {_ H' v _} J rv q => ⟨v, H', J.os, J.bare, J.base, J.hok, rv, q⟩
  cases flow with
  | ret u =>
    obtain ⟨v, σ', H', J, rv, q⟩ := hs
    exact fin J rv q
  | next =>
    obtain ⟨σ', H', J, q⟩ := hs
    exact fin (v := V.non) (u := Value.none) J rfl q
  | brk => obtain ⟨_, _, _, q⟩ := hs; exact q.elim
  | cont => obtain ⟨_, _, _, q⟩ := hs; exact q.elim
end
section
variable {X : Cx}
theorem goG {k : Nat} {f : Addr} {fd : FuncData} {ps : List Str} {sp : Sp} {ds : List Value} {dvs : List V} {E : XK} {pins : List (Addr × Obj)} {σ : L2.St} {H : Hp} {s : Shared} {Q : VK} {us : List Value} {vs : List V}
    (F : FnG X.prog X.w X.K X.mg X.base k f fd ps sp) (hg : X.A.guards = some []) (hr : Room k X.A) (hb : Binds X.K fd ps ds) (hd : Vals dvs ds) (hx : Passes CX0 X E)
    (I : Inv X pins σ H s) (r : Vals vs us) (h : sp (vs ++ dvs) H Q E) :
    wpAny (model X.prog X.w) X.A (call (.ref f) us) (EP X pins σ Q) X.xe s := by
  have rr : Vals (vs ++ dvs) (us ++ ds) := r.append hd
  have len : (us ++ ds).length = ps.length := rr.length ▸ F.len _ _ _ _ h
  refine wpAny_call (codeAny_mono (F.go X.A X.stack s H ⟨us, []⟩ (us ++ ds) (vs ++ dvs) Q E hg hr I.env0 (hb s us I.kIn len) rr h) ?_)
  intro res s' hq
  match res, hq with
  | .error e, hq => exact hx pins σ H s e s' I hq
  | .ok (.ret u), hq => exact I.after hq
/-- f(e, ..), f writing out data -/
theorem pe_callG {k : Nat} {f : Addr} {fd : FuncData} {ps : List Str} {sp : Sp} {ds : List Value} {dvs : List V} {E : XK} {x : Str} {e : Expr} {es : List Expr} {t : TA} {p pos : Pos}
    (F : FnG X.prog X.w X.K X.mg X.base k f fd ps sp) (hgd : X.A.guards = some []) (hr : Room k X.A) (hg : Gl X x) (hm : X.mg x = some (.ref f)) (hk : PySem.W.keepIn X.K (.ref f) = true)
    (hb : Binds X.K fd ps ds) (hd : Vals dvs ds) (hx : Passes CX0 X E) (ha : PA X (e :: es) t) (hdb : (x == ("__debug__" : Str)) = false := by decide)
    (he : starEach (e :: es) X.env = (false, eval e X.env) :: starEach es X.env := by rfl)
    (hpl : (backTo pos (starEach es X.env)).any (·.1) = false := by rfl) :
    PE X (.Call (.Name x p) (e :: es) [] pos) (tCall sp dvs E t) := by
  refine ⟨fun pins s σ H Q I h => wpAny_Call_Name_kw (ld_glob I hg hm ?_ hdb)⟩
  refine PySem.W.callWith_K (h₀ := X.base) I.ok.mod.kin hk
    (thn (ha.run pos pins s σ H _ I h) fun us s1 ⟨vs, H1, I1, r, q⟩ => ⟨I1.kIn, ?_⟩) he hpl
  exact goG F hgd hr hb hd hx I1 r q

/-! ### repr -/
def rRepr (K : PySem.W.Frag) : List V → Hp → VK → Prop := fun xs H Q => ∃ (v : V) (d : PyData), xs = [v] ∧ Dp K H v d ∧ d.showable = true ∧ d.hasDict = false ∧
  d.depth ≤ 60 ∧ d.shown.length ≤ sizeLine ∧ Q (.str d.shown) H
theorem call_repr (hg : X.A.guards = some []) (hu : X.A.units + 64 < cLine) : CallR X (.builtin "repr") (rRepr X.K) := by
  intro pins s σ H xs us Q I r h
  obtain ⟨v, d, rfl, hd, hs, hn, hdp, hz, q⟩ := h
  obtain ⟨u, rfl, ru⟩ := vals1 r
  cases hd with
  | non =>
    cases ru
    exact P.repr_of_none ⟨.str _, H, I.tok _, ⟨_, rfl⟩, q⟩
  | bl b =>
    cases ru
    exact P.repr_of_bool ⟨.str _, H, I.tok _, ⟨_, rfl⟩, q⟩
  | int i =>
    obtain ⟨t, rfl⟩ := ru
    exact P.repr_of_int (of_decide_eq_true hs) ⟨.str _, H, I.tok _, ⟨_, rfl⟩, q⟩
  | str x =>
    obtain ⟨t, rfl⟩ := ru
    exact P.repr_of_str ⟨.str _, H, I.tok _, ⟨_, rfl⟩, q⟩ hz
  | @lst a xs ds h1 h2 =>
    cases ru
    obtain ⟨as, rd⟩ := Dp.reads I (.list ds) (.ref a) (.ref a) (.lst h1 h2) rfl
    refine repr_of_reads' rd hs (fun z => by rw [hn] at z; cases z) hg (by omega) (fun _ _ e => e) (fun h' u tk hk => ?_) hz
    exact ⟨.str _, H, I.kept hk, ⟨_, rfl⟩, q⟩
  | @tup a xs ds h1 h2 =>
    cases ru
    obtain ⟨as, rd⟩ := Dp.reads I (.tuple ds) (.ref a) (.ref a) (.tup h1 h2) rfl
    refine repr_of_reads' rd hs (fun z => by rw [hn] at z; cases z) hg (by omega) (fun _ _ e => e) (fun h' u tk hk => ?_) hz
    exact ⟨.str _, H, I.kept hk, ⟨_, rfl⟩, q⟩
end
end My

/-! The end of a law whose promise is asked where no guard stands. -/
namespace My
open PySem PySem.Spec PyProof.Rows L2
theorem law_callG {P : Program} {w : World} {K : PySem.W.Frag} {mg mb : Str → Option Value} {k : Nat} {fa a : Addr} {fd : FuncData} {x : Str} {sp : Sp} {s₁ : Shared} {vs : List Value} {ns : List Int}
    (inK : K.In s₁.heap) (glob : s₁.heap.Ns mainGlobals mg) (blt : s₁.heap.Ns builtinsNs mb) (boot : ∀ x : Str, x ≠ "__name__" → mb x = bootBuiltins x) (nolim : s₁.heap.NoLimit) (nogen : s₁.gens = #[])
    (hobj : s₁.heap.get? a = some { cls := .type "list", data := .seq vs.toArray }) (hints : IntsAre vs ns) (hlen : ns.length ≤ sizeLine) (room : Room k callerA)
    (F : ∀ base : Heap, K.In base → base.Ns mainGlobals mg → FnG P w K mg base k fa fd [x] sp) (binds : ∀ (s : Shared) (u : Value), BindsTo s fd ⟨[u], []⟩ [(x, u)])
    (want : ∀ H : Hp, Only H → SqL K H a (ns.map V.int) → sp [.ref a] H (fun v _ => v = .bl true) fun _ _ _ => False) :
    codeAny (model P w) callerA (.call (.ref fa) ⟨[.ref a], []⟩) (fun r s' => r = .ok (.ret (.bool true)) ∧ OldK s₁.heap s'.heap ∧ s'.os = s₁.os ∧ AllBare s'.gens) s₁ := by
  have relv := vals_ints hints
  have core : ∀ H : Hp, Only H → SqL K H a (ns.map V.int) → HOk P w H s₁.heap → (∀ b, H b ≠ none → b = a) → (H a ≠ none → K.lookup a = none) →
      codeAny (model P w) callerA (.call (.ref fa) ⟨[.ref a], []⟩) (fun r s' => r = .ok (.ret (.bool true)) ∧ OldK s₁.heap s'.heap ∧ s'.os = s₁.os ∧ AllBare s'.gens) s₁ := by
    intro H only seq ok one notK
    have up : ∀ {b : Addr} {o : Obj}, s₁.heap.get? b = some o → H b = none → (hidT s₁.heap H).get? b = some o := fun e n => hidT_get e n
    have dictFree : ∀ {b : Addr} {o : Obj} {es : Array DictEntry} {ep : Nat}, s₁.heap.get? b = some o → o.data = .dict es ep → H b = none := by
      intro b o es ep e d
      cases q : H b with
      | none => rfl
      | some u =>
        have eb : b = a := one b (fun z => by rw [q] at z; cases z)
        rw [eb, hobj] at e
        cases e
        exact Data.noConfusion (show Data.seq vs.toArray _ = Data.dict es ep from d)
    have nsUp : ∀ {b : Addr} {m : Str → Option Value}, s₁.heap.Ns b m → (hidT s₁.heap H).Ns b m :=
      fun {_ _} ⟨o, es, ep, e, d, r⟩ => ⟨o, es, ep, up e (dictFree e d), d, r⟩
    have kUp : K.In (hidT s₁.heap H) := by
      intro b o e
      refine up (inK b o e) ?_
      cases q : H b with
      | none => rfl
      | some u =>
        have eb : b = a := one b (fun z => by rw [q] at z; cases z)
        rw [eb, notK (fun z => by rw [← eb, q] at z; cases z)] at e
        cases e
    have mod : Mod K mg (hidT s₁.heap H) := ⟨kUp, nsUp glob, ⟨mb, nsUp blt, boot⟩, nolim.imp fun mc z => ⟨nsUp z.1, z.2⟩⟩
    have env0 : Env0 P w K mg (hidT s₁.heap H) callerA [] s₁ H :=
      ⟨rfl, mod, fun b o e => of_hidT e, Nat.le_of_eq (hidT_size _ _), trivial, fun b hb => absurd (show b ∈ ([] : List Addr) from hb) (by simp), ok, .of_eq nogen⟩
    have call := (F _ kUp (nsUp glob)).go callerA [] s₁ H ⟨[.ref a], []⟩ [.ref a] [.ref a] _ _ rfl room env0 (binds s₁ (.ref a)) (.cons rfl .nil) (want H only seq)
    refine codeAny_mono call fun r s' h => ?_
    match r, h with
    | .error e, h => exact (show False from h).elim
    | .ok (.ret u), h =>
      obtain ⟨v, H', os, bare, un, ok', rv, q⟩ := h
      obtain rfl : v = .bl true := q
      obtain rfl : u = Value.bool true := rv
      refine ⟨rfl, OldK.of_keep (fun b o e => ?_), os, bare⟩
      rcases only b with z | ⟨ob, xs, z⟩
      · exact un.keep b o e z (fun y => absurd (show b ∈ ([] : List Addr) from y) (by simp)) (by simp)
      · obtain ⟨e1, _⟩ := ok b _ z
        obtain ⟨e2, _⟩ := ok' b _ (un.frzs b ob _ z)
        rw [e] at e1
        cases e1
        exact e2
  cases hk : K.lookup a with
  | some o =>
    have e := inK a o hk
    rw [hobj] at e
    cases e
    have stands : SqL K (fun _ => none) a (ns.map V.int) := .inr ⟨_, vs.toArray, _, hk, rfl, rfl, rfl, by rw [List.size_toArray, hints.length]; exact hlen, by simpa using relv⟩
    exact core (fun _ => none) (fun _ => .inl rfl) stands (fun b u z => nomatch (show (none : Option HO) = some u from z)) (fun b z => absurd rfl z) fun z => absurd rfl z
  | none =>
    let o : Obj := { cls := .type "list", data := .seq vs.toArray }
    have atA : (fun b => if b = a then some (HO.frz o (.lst (ns.map V.int))) else none) a = some (.frz o (.lst (ns.map V.int))) := if_pos rfl
    refine core (fun b => if b = a then some (.frz o (.lst (ns.map V.int))) else none) (fun b => ?_) (.inl (.inr ⟨o, atA⟩)) (fun b u z => ?_) (fun b z => ?_) fun _ => hk
    · by_cases hb : b = a
      · exact .inr ⟨_, _, if_pos hb⟩
      · exact .inl (if_neg hb)
    · by_cases hb : b = a
      · have y := (if_pos hb).symm.trans z
        cases y
        rw [hb]
        exact ⟨hobj, by rw [List.length_map]; exact hlen, vs, _, relv, hobj⟩
      · exact nomatch (if_neg hb).symm.trans z
    · by_cases hb : b = a
      · exact hb
      · exact absurd (if_neg hb) z
theorem walk_ofG {l : PySem.W.OpenLaw} {n k : Nat} {q : Program} {loose : List Str} {XP : (Str → Option Value) → Heap → Prop} {YP : World → Heap → Prop} {d : DefRec}
    {K : Params → PySem.W.Frag} {sp : PySem.W.Frag → Sp} {x : Str}
    (hn : l.most = some n) (hn2 : n ≤ sizeLine) (hdf : d.params.defaults = []) (room : Room k callerA)
    (hY : ∀ (w : World) (h : Heap), YP w h → (K w.params).In h)
    (F : ∀ (w : World) (mg : Str → Option Value) (fa : Addr) (h : Heap), (K w.params).In h → h.Ns mainGlobals mg → mg d.name = some (.ref fa) →
      ∃ fd : FuncData, (∀ (s : Shared) (u : Value), BindsTo s fd ⟨[u], []⟩ [(x, u)]) ∧
        ∀ base : Heap, (K w.params).In base → base.Ns mainGlobals mg → FnG l.prog w (K w.params) mg base k fa fd [x] (sp (K w.params)))
    (want : ∀ (K : PySem.W.Frag) (H : Hp) (a : Addr) (ns : List Int), ns.length ≤ n → Only H → SqL K H a (ns.map V.int) → sp K [.ref a] H (fun v _ => v = .bl true) fun _ _ _ => False) :
    PySem.W.WalkO q loose XP YP l.row.toRowW d [] (fun f vs => PySem.call f vs) := by
  refine Att.attach_call hn hdf fun w s₀ s₁ mg mb fa o pm cd doc a vs ns G Y ho hd hcd hmg hobj hints hlen hg => ?_
  obtain ⟨fd, hb, hF⟩ := F w mg fa _ (hY w _ Y) G.T.g hmg
  exact law_callG (hY w _ Y) G.T.g G.T.b G.T.builtins G.T.nolimit hg hobj hints
    (Nat.le_trans hlen hn2) room hF hb fun H only seq => want (K w.params) H a ns hlen only seq
end My

/-! for i, x in enumerate(t), t a tuple. -/
namespace My
open PySem PySem.Spec PyProof.Rows L2
/-- what enumerate(v) makes: v's iterator and itself -/
def enumO (a : Addr) : Obj :=
  { cls := .type "enumerate",
    data := .fields #[.none, .bool false, .ref a, rawInt 0, .none, .none] }
set_option maxHeartbeats 1000000 in
theorem meets_enum1 {v : Value} {o : Obj} {G : Heap → Prop} (B : Begins v o G) :
    Meets (Builtin.«enumerate.__new__» ⟨[.type "enumerate", v], []⟩) (fun _ R s => G s.heap ∧
      R (.ok (.ret (.ref (s.heap.push o).objs.size)))
        { s with heap := (s.heap.push o).push (enumO s.heap.objs.size) }) :=
  .of_wp fun prog w A R s ⟨h1, h⟩ => by
    obtain ⟨hp, gens, drawn, tk, os⟩ := s
    have isSub := sub_enumerate
    have step : ∀ {A' : Around} {E : Value → Shared → Prop} {Q : Value → Shared → Prop}, Q (.ref hp.objs.size) ⟨hp.push o, gens, drawn, tk, os⟩ →
        wpAny (model prog w) A' (pyIter v) Q E ⟨hp, gens, drawn, tk, os⟩ :=
      fun q => B.iter prog w _ _ ⟨hp, gens, drawn, tk, os⟩ _ h1 q
    wp_walk using step
    refine wpAny_stack_any fun st => wpAny_pure ?_
    split
    · rename_i c _ _ _ _ _
      by_cases hc : (c == Value.type "enumerate") = true
      · rw [hc]
        wp_walk using step
        exact ⟨_, rfl, h⟩
      · rw [Bool.not_eq_true] at hc
        rw [hc]
        wp_walk using step
        exact ⟨_, rfl, h⟩
    · wp_walk using step
      exact ⟨_, rfl, h⟩
section
variable {prog : Program} {w : World} {A : Around} {E : Value → Shared → Prop} {s : Shared}
theorem enum_call1 {v : Value} {o : Obj} {G : Heap → Prop} {Q : Value → Shared → Prop} (B : Begins v o G) (h1 : G s.heap)
    (h : ∀ h', IsEnum h' (s.heap.objs.size + 1) s.heap.objs.size 0 .none → h'.get? s.heap.objs.size = some o →
      (∀ b u, s.heap.get? b = some u → h'.get? b = some u) → Q (.ref (s.heap.objs.size + 1)) { s with heap := h' }) :
    wpAny (model prog w) A (call (.type "enumerate") [v]) Q E s := by
  have size1 : (s.heap.push o).objs.size = s.heap.objs.size + 1 := Heap.size_push ..
  have made : IsEnum ((s.heap.push o).push (enumO s.heap.objs.size)) (s.heap.objs.size + 1) s.heap.objs.size 0 .none := by
    have z := Heap.get?_push_size (s.heap.push o) (o := enumO s.heap.objs.size) rfl
    rw [size1] at z
    exact z
  refine callType_new F.called_enumerate (by decide) (F.typeCall_enumerate_1 _) (F.newCall_enumerate_1 _)
    (fun obj => F.args_object_init_2 obj _) F.entry_enumerate_new (meets_enum1 B) ⟨h1, ?_⟩
  show _ ∧ _
  rw [size1]
  exact ⟨⟨_, made, rfl⟩, h _ made (Heap.get?_push_of_some _ (Heap.get?_push_size _ B.free)) fun b u x => Heap.get?_push_of_some _ (Heap.get?_push_of_some _ x)⟩
end
/-- the tuple at a, each item in a new pair with its number -/
def Itu (K : PySem.W.Frag) (a : Addr) : It where
  go i H := ∃ (xs : List V) (x : V), SqT K H a xs ∧ xs[i]? = some x
  yld i H v H' := ∃ T x, v = .ref T ∧ H T = none ∧ H' = upd H T (.tup [.int (i : Nat), x]) ∧ ∀ xs, SqT K H a xs → xs[i]? = some x
  stop i H := ∃ xs : List V, SqT K H a xs ∧ xs.length = i
def EnumAt (e it a : Addr) (i : Nat) (h : Heap) : Prop := (∃ old, IsEnum h e it ((i : Nat) : Int) old) ∧ h.IsTupleIter it a i ∧ e ≠ it
theorem turn_enumT {P : Program} {w : World} {K : PySem.W.Frag} {elts : List Expr} {kk : Nat} {tpos : Pos} (a e it : Addr) (hae : a ≠ e) (hai : a ≠ it) :
    Turn P w K (.Tuple elts kk tpos) (Itu K a) [e, it] e (EnumAt e it a) where
  mem := by simp
  obj := fun i h st b hb => by
    obtain ⟨⟨old, he⟩, ⟨o, ho, hc, hd⟩, _⟩ := st
    rcases List.mem_cons.mp hb with z | z
    · rw [z]; exact ⟨_, he, fun v q => nomatch q⟩
    · rw [List.mem_singleton.mp z]; exact ⟨o, ho, fun v q => by rw [hd] at q; cases q⟩
  keep := fun i h h' st k => by
    obtain ⟨⟨old, he⟩, hi, hne⟩ := st
    exact ⟨⟨old, k e (by simp) _ he⟩, hi.at fun o q => k it (by simp) o q, hne⟩
  item := by
    intro X hP hw hK hc i pins s σ H E I hf st hg
    subst hP hw hK
    obtain ⟨⟨old, he⟩, hit, hne⟩ := st
    obtain ⟨xs, x, hq, hx⟩ := hg
    obtain ⟨its, rv, p, hz⟩ := I.tuple hq
    obtain ⟨u, hu, ru⟩ := rv.get hx
    have helt : e < s.heap.objs.size := Heap.lt_size he
    have hilt : it < s.heap.objs.size := by
      obtain ⟨_, q, _⟩ := hit
      exact Heap.lt_size q
    have hlt : i < its.toArray.size := by
      rw [List.size_toArray]
      exact (List.getElem?_eq_some_iff.mp hu).1
    have hef : e ∉ [it, a] := by
      intro z
      rcases List.mem_cons.mp z with q | q
      · exact hne q
      · exact hae (List.mem_singleton.mp q).symm
    refine wpAny_pyNext_enum_itemD (Draws.tuple (A := X.A.in1) (I.ok.hd hc) it a hai its.toArray) he ⟨hit, p⟩ hlt hne hef fun y h' tk hy ho hst' hT hsz hk => ?_
    have hy' : y = u := by
      have z : its.toArray[i]? = some u := by simpa using hu
      exact Option.some.inj (hy.symm.trans z)
    subst hy'
    refine ⟨_, rfl, wpAny_letOwnedTupleGo_enum (s := { s with heap := h', toks := tk + 1 }) ho fun h'' he' sb => ?_⟩
    have hT2 : h''.get? s.heap.objs.size = some { cls := .type "tuple", data := .seq #[.int i tk, y] } :=
      (sb.2 _ (Nat.ne_of_gt helt)).trans hT
    have new : ObjOk X.prog X.w (upd H s.heap.objs.size (.tup [.int (i : Nat), x])) h'' s.heap.objs.size (.tup [.int (i : Nat), x]) :=
      ⟨(by decide : 2 ≤ sizeLine), [.int i tk, y], .cons ⟨_, rfl⟩ (.cons ru .nil), _, hT2, rfl, _, rfl⟩
    have I1 : Inv X pins σ (upd H s.heap.objs.size (.tup [.int (i : Nat), x])) { s with heap := h'', toks := tk + 1 } :=
      I.turnedNew (ch := [e, it])
        (fun b ob hb q => (sb.2 b (fun z => hb (by simp [z]))).trans (hk b ob (fun z => hb (by simp [z])) (fun z => hb (by simp [z])) q)) hf (Nat.le_refl _) new
    refine ⟨.ref s.heap.objs.size, _, I1, rfl, ⟨_, x, rfl, I.hok.fresh (Nat.le_refl _), rfl, fun ys hy => by rw [I.tuple_inj hy hq]; exact hx⟩,
      ⟨⟨y, ?_⟩, hst'.1.at fun o q => (sb.2 it (Ne.symm hne)).trans q, hne⟩, fun b hb => ?_⟩
    · rw [show ((i + 1 : Nat) : Int) = (i : Int) + 1 by omega]
      exact he'
    · have hlt : b < s.heap.objs.size := by
        rcases List.mem_cons.mp hb with z | z
        · rw [z]; exact helt
        · rw [List.mem_singleton.mp z]; exact hilt
      rw [upd_ne (Nat.ne_of_lt hlt)]
      exact (hf b hb).1
  done := by
    intro X hP hw hK hc i pins s σ H E I hf st hg
    subst hP hw hK
    obtain ⟨⟨old, he⟩, hit, hne⟩ := st
    obtain ⟨xs, hq, hx⟩ := hg
    obtain ⟨its, rv, p, hz⟩ := I.tuple hq
    obtain ⟨f0, f1, f2, f3, f4, f5⟩ := hf it (by simp)
    have hl : its.toArray.size = i := by rw [List.size_toArray, ← rv.length, hx]
    have st : its.toArray.size = i → (s.heap.IsTupleIter it a its.toArray.size ∧ s.heap.IsTuple a its.toArray) := fun z => ⟨z ▸ hit, p⟩
    refine wpAny_pyNext_enum_endD (Draws.tuple (A := X.A.in1) (I.ok.hd hc) it a hai its.toArray) he (st hl) fun h' eb => ⟨rfl, ?_⟩
    exact I.turned (t' := s.toks) (fun b o hb q => eb b o hb q) f0 f1 f3 f4 f5
  self := fun A i s Q E st h => by
    obtain ⟨⟨_, he⟩, _⟩ := st
    exact wpAny_pyIter_enum he h
def iEnumT (K : PySem.W.Frag) (ta : TA) : TI := fun σ H R => ta σ H fun vs H1 => ∃ a xs, vs = [.ref a] ∧ SqT K H1 a xs ∧ R (Itu K a) H1
theorem pi_enumT {X : Cx} {e : Expr} {ta : TA} {p pos tpos : Pos} {elts : List Expr} {kk : Nat} (hg : Gl X "enumerate") (hm : X.mg "enumerate" = none) (ha : PA X [e] ta)
    (hs : starEach [e] X.env = [(false, eval e X.env)] := by rfl) : PI X (.Tuple elts kk tpos) (.Call (.Name "enumerate" p) [e] [] pos) (iEnumT X.K ta) := by
  refine ⟨fun pins s σ H R I h => Call_ (ld_blt I hg hm boot_enumerate (PyProof.Rows.callWith_type1 ?_ hs rfl))⟩
  refine thn (ha.run pos pins s σ H _ I h) fun us s1 ⟨vs, H1, I1, r1, a, xs, ex, hq, q⟩ => ?_
  subst ex
  obtain ⟨u, rfl, ru⟩ := vals1 r1
  obtain rfl : u = Value.ref a := ru
  obtain ⟨its, rv, p', hz⟩ := I1.tuple hq
  have hlt : a < s1.heap.objs.size := (by obtain ⟨o, ho, _⟩ := p'; exact Heap.lt_size ho)
  refine enum_call1 (begins_tuple a its.toArray) p' fun h' he hit hk => wpAny_pyIter_enum he ?_
  have I2 : Inv X pins σ H1 { s1 with heap := h' } := I1.kept (t' := s1.toks) hk
  refine ⟨s1.heap.objs.size + 1, [s1.heap.objs.size + 1, s1.heap.objs.size], _, _, H1, rfl, I2,
    turn_enumT a (s1.heap.objs.size + 1) s1.heap.objs.size (Nat.ne_of_lt (Nat.lt_succ_of_lt hlt)) (Nat.ne_of_lt hlt), ⟨⟨.none, he⟩, ⟨_, hit, rfl, rfl⟩, Nat.succ_ne_self _⟩, fun b hb => ?_, q⟩
  have hle : s1.heap.objs.size ≤ b := by
    rcases List.mem_cons.mp hb with z | z
    · rw [z]; exact Nat.le_add_right _ _
    · rw [List.mem_singleton.mp z]; exact Nat.le_refl _
  exact I1.fpOk hle (I1.hok.fresh hle)
end My

/-! rules within a comprehension: the written part by its own name -/
namespace My
open PySem PySem.Spec PyProof.Rows L2
section
variable {X : Cx}
theorem pg_tupK {K : PySem.W.Frag} {es : List Expr} {k : Nat} {pos : Pos} {t : TGs} {n : Nat} (hc : X.calm = true) (h : PGs X es t) (hK : X.K = K := by rfl)
    (hn : (assignEach es X.env).length = n := by rfl) (hst : (assignEach es X.env).findIdx? (·.1) = none := by rfl) : PG X (.Tuple es k pos) (gTup K n t) := by
  subst hK
  exact pg_tup hc h hn hst
theorem call_reprK {K : PySem.W.Frag} (hg : X.A.guards = some []) (hu : X.A.units + 64 < cLine) (h : X.K = K := by rfl) : CallR X (.builtin "repr") (rRepr K) := by
  subst h
  exact call_repr hg hu
variable {o e : Expr} {es : List Expr} {to : TE} {t : TA} {name : Str} {apos cpos : Pos} {T id : String} {r : V → List V → Hp → VK → Prop}
theorem pe_bmK {K : PySem.W.Frag} (pa : PlainAttrs T) (slot : Slot T name id) (hty : typeOf (.builtin id) = pure (.type "method_descriptor")) (hm : MtR X id r) (ho : PE X o to) (ha : PA X (e :: es) t) (hK : X.K = K := by rfl)
    (hbase : attributeBase o name X.env (eval o X.env) = eval o X.env := by rfl)
    (hfew : ((backTo cpos (starEach (e :: es) X.env)).all (fun x => !x.1) && (backToKw cpos (keywordEach [] X.env)).all (fun x => x.1.isSome)
      && decide ((e :: es).length + ([] : List Keyword).length + (if ([] : List Keyword).isEmpty then 0 else 1) < 30)) = true := by rfl)
    (hline : (apos.endLine == cpos.line) = true := by rfl) (hs : starEach (e :: es) X.env = (false, eval e X.env) :: starEach es X.env := by rfl) (hplain : (backTo cpos (starEach es X.env)).any (·.1) = false := by rfl) :
    PE X (.Call (.Attribute o name apos) (e :: es) [] cpos) (tBM K T r to t) := by
  subst hK
  exact pe_bm pa slot hty hm ho ha hbase hfew hline hs hplain
end
end My

/-! An own error whose __init__ stores no field: it has no dict. -/
namespace My
open PySem PySem.Spec PyProof.Rows L2
def tMk0 (C : Addr) (sp : Sp) (ta : TA) : L2.St → Hp → XK → Prop := fun σ H Q => ta σ H fun vs H1 => vs.length ≤ 1000 ∧ ∀ a, H1 a = none →
  sp (.ref a :: vs) (upd H1 a (exo a C none)) (fun v H2 => v = .non ∧ H2 a = some (exo a C none) ∧ Q (.ref C) none (del H2 a)) (fun _ _ _ => False)
section
variable {X : Cx}
theorem end_nodict {pins : List (Addr × Obj)} {σ : L2.St} {H1 H2 : Hp} {hp hp2 h2 : Heap} {g1 g2 : Array GenState} {d1 d2 : Drawn} {t1 t2 : Nat} {os1 os2 : OsState} {a C : Addr}
    (I1 : Inv X pins σ H1 ⟨hp, g1, d1, t1, os1⟩) (above : hp.objs.size ≤ a) (kept : ∀ b o, hp.get? b = some o → hp2.get? b = some o)
    (un : Un (frs X.stack) [] (upd H1 a (exo a C none)) H2 hp2 h2) (ok : HOk X.prog X.w H2 h2) (sameOs : os2 = os1) (bare : AllBare g2) (ea : H2 a = some (exo a C none)) :
    ∃ (t0 : Addr) (G : Heap), Inv X pins σ (del H2 a) ⟨G, g2, d2, t2, os2⟩ ∧ (∀ b o, G.get? b = some o → h2.get? b = some o) ∧ G.get? a = none ∧
      h2.get? a = some ({ cls := .ref C, dict := none, data := .fields #[.ref t0, .none, .none, .none, .bool false, .none] } : Obj) := by
  obtain ⟨t0, obj⟩ := exo_at ok ea
  have free : H1 a = none := I1.hok.fresh above
  obtain ⟨G, in1, in2⟩ := restrict h2 fun b => decide (b ≠ a)
  have same : ∀ b, b ≠ a → G.get? b = h2.get? b := fun b hb => in1 b (decide_eq_true hb)
  have gone : G.get? a = none := in2 a (by simp)
  have other : ∀ {b : Addr} {o : Obj}, hp.get? b = some o → b ≠ a :=
    fun {_ _} z => Nat.ne_of_lt (Nat.lt_of_lt_of_le (Heap.lt_size z) above)
  have still : ∀ {b : Addr}, b ≠ a → H1 b = none → upd H1 a (exo a C none) b = none := fun {_} hb n => (upd_ne hb).trans n
  have newU : Un (frs X.stack) [] H1 (del H2 a) hp G := {
    keep := fun b o z n hf hx => (same b (other z)).trans (un.keep b o (kept b o z) (still (other z) n) hf hx)
    slot := fun b o z n hf hx => by
      obtain ⟨sl, e⟩ := un.slot b o (kept b o z) (still (other z) n) hf hx
      exact ⟨sl, (same b (other z)).trans e⟩
    free := fun b o z n hx => (del_ne (other z)).trans (un.free b o (kept b o z) (still (other z) n) hx)
    there := fun b o z hx => by
      obtain ⟨u, e⟩ := un.there b o (kept b o z) hx
      exact ⟨u, (same b (other z)).trans e⟩
    tups := fun b xs z => (del_ne (ne_of_none z free)).trans (un.tups b xs ((upd_ne (ne_of_none z free)).trans z))
    frzs := fun b o v z => (del_ne (ne_of_none z free)).trans (un.frzs b o v ((upd_ne (ne_of_none z free)).trans z))
    tbls := fun b ps z => by
      obtain ⟨more, e⟩ := un.tbls b ps ((upd_ne (ne_of_none z free)).trans z)
      exact ⟨more, (del_ne (ne_of_none z free)).trans e⟩ }
  have newOk : HOk X.prog X.w (del H2 a) G := by
    intro b o z
    have hba : b ≠ a := fun e => by
      rw [e, del_same] at z
      cases z
    rw [del_ne hba] at z
    have notOwn : ∀ {c : Addr}, H2 c = some (.own b) → c ≠ a := fun {_} hc => at_ne ea hc exo_own
    refine (ok b o z).stay (fun c v hc y => ?_) (fun c hc => (del_ne (notOwn hc)).trans hc) (fun c xs hc => (del_ne (at_ne ea hc exo_tup)).trans hc)
    have hca : c ≠ a := by
      rcases hc with hc | hc
      · rw [hc]; exact hba
      · exact notOwn hc
    exact (same c hca).trans y
  refine ⟨t0, G, I1.call' (ch := []) sameOs newU newOk bare (fun b z => absurd z (by simp)), fun b o z => ?_, gone, obj⟩
  by_cases hba : b = a
  · rw [hba, gone] at z
    cases z
  · exact (same b hba).symm.trans z
theorem pmk0 {x : Str} {C fI : Addr} {k : Nat} {fd : FuncData} {ps : List Str} {sp : Sp} {e : Expr} {es : List Expr} {ta : TA} {p pos : Pos}
    (T : OexC X.K C) (iC : PySem.W.findIn X.K (.ref C) "__init__" = some (some (.ref fI))) (tI : PySem.W.typeIn X.K (.ref fI) = some (.type "function"))
    (F1 : FnOk X.prog X.w X.K X.mg X.base CX0 k fI fd ps sp) (hr : Room (k + 1) X.A) (hb : Binds X.K fd ps []) (hm : X.mg x = some (.ref C)) (ha : PA X (e :: es) ta) (hg : Gl X x := by rfl)
    (hdb : (x == ("__debug__" : Str)) = false := by decide) (he : starEach (e :: es) X.env = (false, eval e X.env) :: starEach es X.env := by rfl)
    (hpl : (backTo pos (starEach es X.env)).any (·.1) = false := by rfl) : PMk X (.Call (.Name x p) (e :: es) [] pos) (tMk0 C sp ta) := by
  intro pins s σ H Q I h
  obtain ⟨nm, q, N, bs, bm, sn, sub, ab, col, dd, k0, k1, k2, k3, k5, hC, hbm⟩ := T.cls
  refine wpAny_Call_Name_kw (ld_glob I hg hm ?_ hdb)
  refine PySem.W.callWith_K (h₀ := X.base) I.ok.mod.kin T.kC
    (thn (ha.run pos pins s σ H _ I h) fun us s1 ⟨vs, H1, I1, rel, few, want⟩ => ⟨I1.kIn, ?_⟩) he hpl
  show wpAny _ _ (call (.ref C) us) _ _ _
  obtain ⟨hp, g, dr, tk, os⟩ := s1
  have up : hp.objs.size ≤ hp.objs.size + 1 := Nat.le_succ _
  have goal1 := want (hp.objs.size + 1) (I1.hok.fresh up)
  have kept : ∀ b o, hp.get? b = some o → ((hp.push (PySem.W.kdv_tup us)).push (PySem.HandSPX.excO C hp.objs.size)).get? b = some o :=
    fun b o e => Heap.get?_push_of_some _ (Heap.get?_push_of_some _ e)
  have there : ((hp.push (PySem.W.kdv_tup us)).push (PySem.HandSPX.excO C hp.objs.size)).get? (hp.objs.size + 1) = some (PySem.HandSPX.excO C hp.objs.size) := by
    heap_get
  have I2 : Inv X pins σ (upd H1 (hp.objs.size + 1) (exo (hp.objs.size + 1) C none)) ⟨(hp.push (PySem.W.kdv_tup us)).push (PySem.HandSPX.excO C hp.objs.size), g, dr, tk, os⟩ :=
    I1.laid (t' := tk) (o := exo (hp.objs.size + 1) C none) kept up
      (exo_ok there)
  have rel2 : Vals (V.ref (hp.objs.size + 1) :: vs) (Value.ref (hp.objs.size + 1) :: us) := .cons rfl rel
  have len : (Value.ref (hp.objs.size + 1) :: us ++ []).length = ps.length := by
    have z := rel2.length
    rw [F1.len _ _ _ _ goal1] at z
    rw [List.append_nil]
    exact z.symm
  have small : us.length ≤ sizeLine := by
    rw [← Paired.length rel]
    exact Nat.le_trans few (by decide)
  have bind0 := hb _ (Value.ref (hp.objs.size + 1) :: us) I2.kIn len
  rw [List.append_nil] at bind0
  refine wpAny_call (PySem.HandSPX.call_own F.excBase_ValueError (fun Y => PySem.HandSPX.refsVE_contains Y bm hbm) (I1.kIn _ _ hC)
    (PySem.W.looks_findIn I1.kIn iC) (fun self => PySem.W.bind_fn I1.kIn self tI) small
    (codeAny_mono (F1.run _ X.stack _ _ ⟨Value.ref (hp.objs.size + 1) :: us, []⟩ (Value.ref (hp.objs.size + 1) :: us) _ _ (fun _ _ _ => False) (hr.make C us []) (I2.env0.make C us []) bind0 rel2 goal1) ?_))
  intro r s' hq
  match r, hq with
  | .error er, hq => exact (show False from hq).elim
  | .ok (.ret u), hq =>
    obtain ⟨v, H2, os2, bare2, un2, ok2, rv, rfl, ea, q2⟩ := hq
    obtain ⟨h2, g2, d2, t2, os'⟩ := s'
    obtain ⟨t0, G, J, inG, gone, obj⟩ := end_nodict (d2 := d2) (t2 := t2) I1 up kept un2 ok2 os2 bare2 ea
    exact ⟨rv, hp.objs.size + 1, _, _, ⟨G, g2, d2, t2, os'⟩, _, .ref C, none, rfl, J, inG, gone, obj, ⟨rfl, rfl⟩, rfl, rfl, del_same, rfl, bare2, raises_own T.exC T.tyC, q2⟩
theorem del_new {H : Hp} {a : Addr} {o : HO} (h : H a = none) : del (upd H a o) a = H := by
  funext b
  unfold del upd
  by_cases e : b = a
  · rw [if_pos e, e, h]
  · rw [if_neg e, if_neg e]
end
end My

/-! try with several clauses, each with a name for the exception or without one. -/
namespace My
open PySem PySem.Spec PyProof.Rows L2
abbrev Suite := Addr → Value → Option Addr → L2.TS
/-- where the suite goes on: the name's slot is emptied -/
def endsAs (D : Ends) (i : Nat) : Ends where
  nx := fun σ H => D.nx (σ.set i none) H
  rt := D.rt
  bk := fun σ H => D.bk (σ.set i none) H
  ct := fun σ H => D.ct (σ.set i none) H
def wHs (K : PySem.W.Frag) (Wout : WX) (D : Ends) : List (Value × Option Nat × Suite) → WX
  | [] => Wout
  | (c, none, ts) :: r => fun cls d σ H => ∃ b, PySem.W.exmOne K cls c = some b ∧
    (b = true → ∀ a, H a = none → ts a cls d D σ H) ∧ (b = false → wHs K Wout D r cls d σ H)
  | (c, some i, ts) :: r => fun cls d σ H => ∃ b, PySem.W.exmOne K cls c = some b ∧
    (b = true → ∀ a, H a = none → ts a cls d (endsAs D i) (σ.set i (some (.ref a))) H) ∧ (b = false → wHs K Wout D r cls d σ H)
def SuiteOk (X : Cx) (body : List Stmt) (ts : Suite) : Prop :=
  ∀ (a : Addr) (oe : Obj) (cls : Value) (d : Option Addr) (pn : List (Addr × Obj)), Zc cls d oe → (∃ vs, oe.data = .fields vs) →
    PSs (X.suite a ((a, oe) :: pn)) body (ts a cls d)
inductive Hs (X : Cx) : List ExceptHandler → List (Value × Option Nat × Suite) → Prop
  | nil : Hs X [] []
  | bare {x : Str} {c : Value} {ts : Suite} {b₀ : Stmt} {suite : List Stmt} {np pos' : Pos} {hds : List ExceptHandler} {l : List (Value × Option Nat × Suite)}
      (hc : Names X x c) (hsu : SuiteOk X (b₀ :: suite) ts) (r : Hs X hds l) : Hs X (.ExceptHandler (some (.Name x np)) none (b₀ :: suite) pos' :: hds) ((c, none, ts) :: l)
  | as {x n : Str} {i : Nat} {c : Value} {ts : Suite} {b₀ : Stmt} {suite : List Stmt} {np pos' : Pos} {hds : List ExceptHandler} {l : List (Value × Option Nat × Suite)}
      (hi : X.N[i]? = some n) (hln : X.env.kindOf n = some .local) (hc : Names X x c) (hsu : SuiteOk X (b₀ :: suite) ts) (r : Hs X hds l) :
      Hs X (.ExceptHandler (some (.Name x np)) (some n) (b₀ :: suite) pos' :: hds) ((c, some i, ts) :: l)
section
variable {X : Cx} {body : List Stmt} {h₀ : ExceptHandler} {hds : List ExceptHandler} {l : List (Value × Option Nat × Suite)} {pos : Pos} {tb : WX → L2.TS} {Wout : WX}
theorem ps_try_hs (stk : X.stack = X.env :: X.outer) (frm : X.env.frame = some X.env.locals) (nd : X.N.Nodup) (out : Takes X Wout)
    (hb : ∀ (W : WX) (pn : List (Addr × Obj)) (xe : Value → Shared → Prop), Takes (X.tr pn xe) W → PassesOwn (model X.prog X.w) X.A X.env xe → PSs (X.tr pn xe) body (tb W))
    (clauses : Hs X (h₀ :: hds) l) : PS X (.Try body (h₀ :: hds) [] [] pos) (fun D σ H => tb (wHs X.K Wout D l) D σ H) := by
  refine ⟨fun pins s σ H D I want => ?_⟩
  have ok := I.ok
  have frames : X.A.frames = some (X.env :: X.outer) := by rw [ok.frames, stk]
  refine wpAny_Try_except ?_
  let catcher : Value → Shared → Prop := fun e s₁ => wpAny (model X.prog X.w) X.A (noteFrame e X.env) (fun _ s₂ =>
    wpAny (model X.prog X.w) X.A (setFlight e none) (fun _ s₃ => wpAny (model X.prog X.w) X.A (handleBy e X.env (h₀ :: hds)) (SP X pins D) X.xe s₃) X.xe s₂) X.xe s₁
  have inBody := hb (wHs X.K Wout D l) (X.pn ++ pins) catcher (fun u s' xx => ?caught) PassesOwn.looking
  case caught =>
    obtain ⟨a, B, sI, pins', σ', H', cls, d, rfl, J', nb, up, sky, na, os, ag, wish⟩ := xx
    have J : Inv X pins σ' H' sI := J'.ofTry ok
    have sky' : Sky B (X.env :: X.outer) a (Zc cls d) X.env.locals s'.heap := stk ▸ sky
    show wpAny (model X.prog X.w) X.A (noteFrame (.ref a) X.env) _ _ _
    refine Sky.land Zc.steady frames frm sky' fun h3 fl3 up3 => ?_
    have J3 : Inv X pins σ' H' { s' with heap := h3 } := J.landed nb fl3.1 (up.trans up3) os ag
    obtain ⟨oe3, vs3, he3, hz3, hd3⟩ := fl3.there
    have noFrame : a ∉ frs (X.env :: X.outer) := fun hm => by
      obtain ⟨_, o', e', hnf⟩ := fl3.2.2.1.mem hm
      rw [he3] at e'
      cases e'
      exact hnf _ hd3
    have nL : a ≠ X.env.locals := fun z => noFrame (List.mem_filterMap.mpr ⟨X.env, List.mem_cons_self, by rw [frm, z]⟩)
    have nF : a ∉ X.fs := fun hm => by
      obtain ⟨e, he, q⟩ := List.mem_filterMap.mp hm
      exact noFrame (List.mem_filterMap.mpr ⟨e, List.mem_cons_of_mem _ he, q⟩)
    have S3 := J3.suite he3 hd3 na nL nF
    have typ : PySem.W.Looks (model X.prog X.w) h3 (typeOf (.ref a)) cls := fun A Q E s k q =>
      wpAny_typeOf_ref (k _ _ he3) (by rw [hz3.1]; exact q)
    have named : ∀ {x : Str} {c : Value} {np : Pos}, Names X x c → ∀ {Q : Value → Shared → Prop} {E : Value → Shared → Prop}, Q c { s' with heap := h3 } →
        wpAny (model X.prog X.w) (X.A.mark (some (.ref a))) (eval (.Name x np) X.env) Q E { s' with heap := h3 } := by
      intro x c np hc Q E q
      obtain ⟨hg, hdbg, hm | ⟨hm, hv, hnn⟩⟩ := hc
      · exact ld_glob (X := X.suite a ((a, oe3) :: (X.pn ++ pins))) S3 hg hm q
          hdbg
      · exact ld_blt (X := X.suite a ((a, oe3) :: (X.pn ++ pins))) S3 hg hm hv q
          hnn hdbg
    have go : ∀ {hds' : List ExceptHandler} {l' : List (Value × Option Nat × Suite)}, Hs X hds' l' → wHs X.K Wout D l' cls d σ' H' →
        wpAny (model X.prog X.w) X.A (handleBy (.ref a) X.env hds') (SP X pins D) X.xe { s' with heap := h3 } := by
      intro hds' l' hk
      induction hk with
      | nil =>
        intro wish
        refine wpAny_handleBy_nil ?_
        obtain ⟨k1, k2, k3, oe, vs, T, oT, ts', he, hz, hd, h1, hr⟩ := id fl3
        unfold PySem.passOn
        refine wpAny_bind (wpAny_field he hd h1 ?_)
        rw [if_neg (show ¬ ((Value.ref T == Value.none) = true) from by simp)]
        have away : wpAny (model X.prog X.w) X.A (setFlight (.ref a) X.env.frame) (fun _ s4 => wpAny (model X.prog X.w) X.A (throw (.ref a) : Sem Flow) (SP X pins D) X.xe s4) X.xe
            { s' with heap := h3 } := by
          rw [frm]
          refine HandSPX.setFlight_upZ fl3 fun h4 hh4 up4 => wpAny_throw (out _ _ ?_)
          exact ⟨a, B, sI, pins, σ', H', cls, d, rfl, J, nb, (up.trans up3).trans up4,
            .inr (.inr (by rw [stk]; exact hh4)), na, os, ag, wish⟩
        first
          | exact wpAny_bind (wpAny_pure (wpAny_bind away))
          | exact wpAny_bind away
      | @bare x c ts b₀ suite np pos' hds2 l2 hc hsu r ih =>
        intro wish
        obtain ⟨b, hb1, yes, no⟩ := wish
        refine wpAny_handleBy_cons (codeAny_handlers_test ?_) (fun q => by cases q)
        refine named hc ((PySem.W.exm_one (M := model X.prog X.w) J3.kIn typ hb1).here ?_)
        cases b with
        | true =>
          refine codeAny_handlers_suite (HandSPX.lands_againZ fl3 fun h4 fl4 up4 => ?_)
          have J4 : Inv X pins σ' H' { s' with heap := h4 } := J.landed nb fl4.1
            ((up.trans up3).trans up4) os ag
          obtain ⟨oe4, vs4, he4, hz4, hd4⟩ := fl4.there
          have S4 := J4.suite he4 hd4 na nL nF
          refine wpAny_mono ((hsu a oe4 cls d (X.pn ++ pins) hz4 ⟨_, hd4⟩).run [] _ _ H' _ S4 (yes rfl a na)) (fun f s6 hsp => ?_)
            (fun _ _ z => False.elim z)
          cases f with
          | next => exact hsp.imp fun _ ⟨H6, S6, q6⟩ => ⟨H6, S6.unsuite ok, q6⟩
          | brk => exact hsp.imp fun _ ⟨H6, S6, q6⟩ => ⟨H6, S6.unsuite ok, q6⟩
          | cont => exact hsp.imp fun _ ⟨H6, S6, q6⟩ => ⟨H6, S6.unsuite ok, q6⟩
          | ret u => exact hsp.imp fun _ ⟨σ6, H6, S6, r6, q6⟩ => ⟨σ6, H6, S6.unsuite ok, r6, q6⟩
        | false =>
          show wpAny _ X.A (handleBy (.ref a) X.env hds2) _ _ _
          exact ih (no rfl)
      | @as x n i c ts b₀ suite np pos' hds2 l2 hi hln hc hsu r ih =>
        intro wish
        obtain ⟨b, hb1, yes, no⟩ := wish
        refine wpAny_handleBy_cons (codeAny_handlers_test ?_) (fun q => by cases q)
        refine named hc ((PySem.W.exm_one (M := model X.prog X.w) J3.kIn typ hb1).here ?_)
        cases b with
        | true =>
          refine codeAny_handlers_suite_as (HandSPX.lands_againZ fl3 fun h4 fl4 up4 => ?_)
          have J4 : Inv X pins σ' H' { s' with heap := h4 } := J.landed nb fl4.1
            ((up.trans up3).trans up4) os ag
          obtain ⟨oe4, vs4, he4, hz4, hd4⟩ := fl4.there
          have S4 := J4.suite he4 hd4 na nL nF
          have hloc : Loc X.env.scope n := Or.inl hln
          refine store_ok (X := X.suite a ((a, oe4) :: (X.pn ++ pins))) (v := .ref a) S4 nd hi hloc rfl (fun s5 S5 => ?_)
            (Or.inr hln)
          refine wpAny_mono ((hsu a oe4 cls d (X.pn ++ pins) hz4 ⟨_, hd4⟩).run [] s5 _ H' _ S5 (yes rfl a na))
            (fun f s6 hsp => ?_) (fun _ _ z => False.elim z)
          have fin : ∀ {σ6 : L2.St} {H6 : Hp} {Q : Shared → Prop}, Inv (X.suite a ((a, oe4) :: (X.pn ++ pins))) [] σ6 H6 s6 → (∀ s7, Inv X pins (σ6.set i none) H6 s7 → Q s7) →
              wpAny (model X.prog X.w) X.A (do bindName X.env n .none; unbindBehindTheSuite X.env n pos') (fun _ s7 => Q s7) X.xe s6 :=
            fun {_ _ _} S6 hq => gone_ok (S6.unsuite ok) nd hi hln hq
          cases f with
          | next =>
            obtain ⟨σ6, H6, S6, q6⟩ := hsp
            exact fin S6 fun s7 J7 => ⟨σ6.set i none, H6, J7, q6⟩
          | brk =>
            obtain ⟨σ6, H6, S6, q6⟩ := hsp
            exact fin S6 fun s7 J7 => ⟨σ6.set i none, H6, J7, q6⟩
          | cont =>
            obtain ⟨σ6, H6, S6, q6⟩ := hsp
            exact fin S6 fun s7 J7 => ⟨σ6.set i none, H6, J7, q6⟩
          | ret u =>
            obtain ⟨v6, σ6, H6, S6, r6, q6⟩ := hsp
            exact fin S6 fun s7 J7 => ⟨v6, σ6.set i none, H6, J7, r6, q6⟩
        | false =>
          show wpAny _ X.A (handleBy (.ref a) X.env hds2) _ _ _
          exact ih (no rfl)
    exact go clauses wish
  refine wpAny_mono (inBody.run [] s σ H D (I.toTry _) want) (fun f s1 hsp => ?_) (fun e s1 he => he)
  cases f with
  | next => exact wpAny_execs_nil (hsp.imp fun _ ⟨H', J', q⟩ => ⟨H', J'.ofTry ok, q⟩)
  | brk => exact hsp.imp fun _ ⟨H', J', q⟩ => ⟨H', J'.ofTry ok, q⟩
  | cont => exact hsp.imp fun _ ⟨H', J', q⟩ => ⟨H', J'.ofTry ok, q⟩
  | ret u => exact hsp.imp fun _ ⟨σ', H', J', r, q⟩ => ⟨σ', H', J'.ofTry ok, r, q⟩
end
end My

/-! (v,) * k for great k -/
namespace My
open PySem PySem.Spec PyProof.Rows L2
theorem rep_flat1 {α : Type} (v : α) : ∀ n : Nat, (List.replicate n [v]).flatten = List.replicate n v
  | 0 => rfl
  | n + 1 => by rw [List.replicate_succ, List.flatten_cons, rep_flat1 v n, List.replicate_succ]; rfl
def rRepW (K : PySem.W.Frag) : R2 := fun x y H Q => ∃ (a : Addr) (n : Nat) (z : V), x = .ref a ∧ y = .int (n : Int) ∧ SqT K H a [z] ∧ 2 ≤ n ∧ n ≤ 9000 ∧
  ∀ b, H b = none → Q (.ref b) (upd H b (.tup (List.replicate n z)))
set_option maxHeartbeats 4000000 in
theorem op_repW {X : Cx} : OpR X (binaryOp .Mult) (rRepW X.K) := by
  intro pins st σ H x y v u Q I rx ry want
  obtain ⟨a, n, z, rfl, rfl, seq, low, most, q⟩ := want
  cases rx
  obtain ⟨tk, rfl⟩ := ry
  obtain ⟨vals, rel, ⟨⟨cl, dict, data, slots⟩, found, isT, m, isS⟩, small⟩ := I.tuple seq
  simp only at isT isS
  subst isT isS
  obtain ⟨it, rfl⟩ : ∃ it, vals = [it] := by
    have := rel.length
    match vals, this with
    | [it], _ => exact ⟨it, rfl⟩
  have line := sizeLine_eq
  have one : ([it].toArray.size : Nat) = 1 := rfl
  have flatLen : (List.replicate n [it]).flatten.length = n := by rw [rep_flat1, List.length_replicate]
  have flatNat : (n : Int).toNat = n := by omega
  have many : (List.foldl (fun x1 x2 => x1 ++ x2) #[] (List.replicate (n : Int).toNat [it].toArray)).size ≤ sizeLine := by
    rw [size_rep, List.size_toArray, flatNat, flatLen, line]
    omega
  have bound0 : (decide ((n : Int) < -(2 ^ 63)) || decide ((n : Int) ≥ 2 ^ 63)) = false := by
    rw [decide_eq_false (by omega), decide_eq_false (by omega)]
    rfl
  have bound1 : ([it].toArray.isEmpty || (n : Int) == 1) = false := by
    rw [show [it].toArray.isEmpty = false from rfl, Bool.false_or, beq_eq_false_iff_ne]
    omega
  have bound2 : (decide ((n : Int) ≤ 0) || [it].toArray.isEmpty) = false := by
    rw [show [it].toArray.isEmpty = false from rfl, decide_eq_false (by omega)]
    rfl
  have bound3 : ¬ (([it].toArray.size : Nat) : Int) * (n : Int) > (2 ^ 63 - 1) / 8 := by
    rw [one]
    omega
  have bound4 : Builtin.Tuple.tupleTooMany ((([it].toArray.size : Nat) : Int) * (n : Int)) = false := by
    unfold Builtin.Tuple.tupleTooMany
    rw [line, one, decide_eq_false (by omega)]
  have mulled := tuple_mulW a [it].toArray m dict slots (n : Int) tk bound0 bound1 bound2 bound3 bound4 many
  refine wpAny_binaryOp_repeat_ref (T := "tuple") (U := "int") (by decide) ⟨_, found, rfl⟩ (fun s2 => typeIs_int s2 (n : Int) tk)
    noFill_tuple_mul F.fills_int_mul F.slot_int_rmul
    repeat_tuple F.slot_int_index.lookup ?_
  refine call_meets F.slot_int_rmul (typeIs_int st (n : Int) tk) F.entry_int_rmul (F.args_int_rmul_2 _ _)
    (int_rmul_tuple (n : Int) tk a [it].toArray m dict slots) ⟨found, rfl, ⟨_, found, rfl⟩, ?_⟩
  refine call_meets F.slot_tuple_mul ⟨_, found, rfl⟩ F.entry_tuple_mul
    (F.args_tuple_mul_2 _ _) mulled ⟨found, ?_⟩
  rw [size_rep, flatNat, rep_flat1]
  refine ⟨.ref st.heap.objs.size, _, I.laid (t' := st.toks) (o := .tup (List.replicate n z)) (fun b ob q => Heap.get?_push_of_some _ q)
    (Nat.le_refl _) ?_, rfl, q _ (I.hok.fresh (Nat.le_refl _))⟩
  refine ⟨by rw [List.length_replicate, line]; omega, List.replicate n it, ?_, IsTup.new _ _⟩
  have r1 := rel.rep n
  rw [rep_flat1, rep_flat1] at r1
  exact r1
end My

/-! texts of numbers, of rows of words -/
namespace My
open PySem PySem.Spec PyProof.Rows L2
/-- a number's text -/
def sI (n : Int) : Str := Str.ofString (toString n)
theorem tl_pos (k : Nat) : TL.tl (sI (k : Int)) = TL.numL k := TL.tl_num k
theorem tl_neg (k : Nat) : TL.tl (sI (-((k : Int) + 1))) = 45 :: TL.numL (k + 1) := by
  have e : (-((k : Int) + 1)) = Int.negSucc k := by omega
  unfold sI
  rw [e, TL.tl_ofString, Int.toString_eq_repr, Int.repr_eq_if, if_neg (by omega)]
  have e2 : (Int.negSucc k).natAbs = k + 1 := rfl
  rw [show (-(Int.negSucc k)).toNat = k + 1 by omega, String.toList_append, Nat.toList_repr, List.map_append]
  rfl
/-- the signs of a number's text -/
theorem sI_cases (n : Int) : (0 ≤ n ∧ TL.tl (sI n) = TL.numL n.toNat) ∨ (n < 0 ∧ TL.tl (sI n) = 45 :: TL.numL (-n).toNat) := by
  by_cases h : 0 ≤ n
  · refine .inl ⟨h, ?_⟩
    obtain ⟨k, rfl⟩ : ∃ k : Nat, n = (k : Int) := ⟨n.toNat, by omega⟩
    rw [tl_pos, Int.toNat_natCast]
  · refine .inr ⟨by omega, ?_⟩
    obtain ⟨k, rfl⟩ : ∃ k : Nat, n = -((k : Int) + 1) := ⟨(-n - 1).toNat, by omega⟩
    rw [tl_neg, show (-(-((k : Int) + 1))).toNat = k + 1 by omega]
theorem sI_free {n : Int} {s : Nat} (h : s ≠ 45) (h2 : s < 48 ∨ 57 < s) : s ∉ TL.tl (sI n) := by
  rcases sI_cases n with ⟨_, e⟩ | ⟨_, e⟩
  · rw [e]; exact TL.numL_free h2
  · rw [e]
    intro hm
    rcases List.mem_cons.mp hm with z | z
    · exact h z
    · exact TL.numL_free h2 z
theorem sI_ne (n : Int) : TL.tl (sI n) ≠ [] := by
  rcases sI_cases n with ⟨_, e⟩ | ⟨_, e⟩
  · rw [e]; exact TL.numL_ne _
  · rw [e]; exact List.cons_ne_nil _ _
theorem numL_5 {k : Nat} (h : k < 100000) : (TL.numL k).length ≤ 5 := TL.numL_len (by decide) h
theorem numL_pos (k : Nat) : 1 ≤ (TL.numL k).length := List.length_pos_iff.mpr (TL.numL_ne k)
theorem sI_len {n : Int} (h : n.natAbs < 100000) : (sI n).length ≤ 6 := by
  rw [TL.len_tl]
  rcases sI_cases n with ⟨_, e⟩ | ⟨_, e⟩
  · rw [e]
    have := numL_5 (k := n.toNat) (by omega)
    omega
  · rw [e]
    have := numL_5 (k := (-n).toNat) (by omega)
    rw [List.length_cons]
    omega
theorem sI_int {n : Int} (h : n.natAbs < 100000) : intText? (sI n) = some n := by
  rcases sI_cases n with ⟨h0, e⟩ | ⟨h0, e⟩
  · have z := PySem.intText_digits (x := sI n) (by rw [show (sI n).cps.toList = _ from e]; exact TL.numL_digits _) (by rw [show (sI n).cps.toList = _ from e]; exact TL.numL_ne _) (by have := sI_len h; omega)
    rw [show (sI n).cps.toList = _ from e, TL.numL_val] at z
    rw [z]
    congr 1
    omega
  · have z := PySem.intText_neg (x := sI n) e (TL.numL_digits _) (TL.numL_ne _) (by have := sI_len h; omega)
    rw [TL.numL_val] at z
    rw [z]
    congr 1
    omega
/-- the first sign is 0 of 0 alone -/
theorem numL_head : ∀ k : Nat, 0 < k → ∃ c r, TL.numL k = c :: r ∧ c ≠ 48 := by
  intro k
  induction k using Nat.strongRecOn with
  | _ k ih =>
    intro h
    by_cases h1 : k < 10
    · rw [TL.numL_lt h1]
      exact ⟨_, [], rfl, by omega⟩
    · obtain ⟨c, r, e, hc⟩ := ih (k / 10) (by omega) (by omega)
      rw [TL.numL_step (by omega), e]
      exact ⟨c, _, rfl, hc⟩
theorem sw_minus (x : Str) : Txt.startswith x "-" = (match TL.tl x with | c :: _ => decide (c = 45) | [] => false) := by
  unfold Txt.startswith
  have e1 : ("-" : Str).length = 1 := by decide +kernel
  have e2 : ("-" : Str).cps = #[45] := by decide +kernel
  unfold PySem.Builtin.Str.subAt
  rw [e1, e2]
  obtain ⟨⟨l⟩⟩ := x
  cases l with
  | nil => rfl
  | cons c r =>
    show (decide (0 + 1 ≤ (⟨(c :: r).toArray⟩ : Str).length) && ((c :: r).toArray.extract 0 1 == #[45])) = decide (c = 45)
    have a : decide (0 + 1 ≤ (⟨(c :: r).toArray⟩ : Str).length) = true := decide_eq_true (by show 1 ≤ (c :: r).toArray.size; rw [List.size_toArray, List.length_cons]; omega)
    rw [a, Bool.true_and]
    have b : (c :: r).toArray.extract 0 1 = #[c] := by simp
    rw [b]
    by_cases h : c = 45
    · subst h; rfl
    · rw [decide_eq_false h]
      simpa using h
theorem sI_sw (n : Int) : Txt.startswith (sI n) "-" = decide (n < 0) := by
  rw [sw_minus]
  rcases sI_cases n with ⟨h, e⟩ | ⟨h, e⟩
  · rw [e, decide_eq_false (by omega)]
    cases hc : TL.numL n.toNat with
    | nil => rfl
    | cons c r =>
      have := TL.numL_digits n.toNat c (by rw [hc]; exact List.mem_cons_self)
      show decide (c = 45) = false
      exact decide_eq_false (by omega)
  · rw [e, decide_eq_true h]
    rfl
/-! ### rows of words -/
def rowT (ws : List Str) : Str := Txt.join " " ws
def textT (rows : List Str) : Str := Txt.join "\n" rows
theorem tl_blank : TL.tl " " = [32] := by decide +kernel
theorem tl_lf : TL.tl "\n" = [10] := by decide +kernel
theorem split_row {ws : List Str} (hne : ws ≠ []) (h : ∀ w ∈ ws, 32 ∉ TL.tl w) : Txt.split (rowT ws) " " = ws := TL.split_join tl_blank (by decide +kernel) hne h
theorem split_text {rows : List Str} (hne : rows ≠ []) (h : ∀ w ∈ rows, 10 ∉ TL.tl w) : Txt.split (textT rows) "\n" = rows := TL.split_join tl_lf (by decide +kernel) hne h
theorem tl_row (ws : List Str) : TL.tl (rowT ws) = TL.joinL [32] (ws.map TL.tl) := by
  unfold rowT
  rw [TL.join_eq, TL.tl_join, tl_blank]
theorem joinL_mem {y : List Nat} {s : Nat} : ∀ {ps : List (List Nat)}, s ∈ TL.joinL y ps → s ∈ y ∨ ∃ p ∈ ps, s ∈ p
  | [], h => by cases h
  | [p], h => .inr ⟨p, List.mem_cons_self, h⟩
  | p :: q :: r, h => by
    rcases List.mem_append.mp (show s ∈ p ++ (y ++ TL.joinL y (q :: r)) from h) with h | h
    · exact .inr ⟨p, List.mem_cons_self, h⟩
    rcases List.mem_append.mp h with h | h
    · exact .inl h
    · rcases joinL_mem h with h | ⟨p', hp, h⟩
      · exact .inl h
      · exact .inr ⟨p', List.mem_cons_of_mem _ hp, h⟩
theorem row_lf {ws : List Str} (h : ∀ w ∈ ws, 10 ∉ TL.tl w) : 10 ∉ TL.tl (rowT ws) := by
  rw [tl_row]
  intro hm
  rcases joinL_mem hm with z | ⟨p, hp, z⟩
  · exact absurd z (by decide)
  · obtain ⟨w, hw, rfl⟩ := List.mem_map.mp hp
    exact h w hw z
theorem joinL_len {y : List Nat} {k : Nat} : ∀ {ps : List (List Nat)}, (∀ p ∈ ps, p.length ≤ k) → (TL.joinL y ps).length ≤ ps.length * (k + y.length)
  | [], _ => Nat.zero_le _
  | [p], h => by
    have := h p List.mem_cons_self
    show p.length ≤ 1 * _
    omega
  | p :: q :: r, h => by
    have h1 := h p List.mem_cons_self
    have h2 := joinL_len (y := y) (ps := q :: r) fun z hz => h z (List.mem_cons_of_mem _ hz)
    show (p ++ (y ++ TL.joinL y (q :: r))).length ≤ (r.length + 1 + 1) * _
    rw [List.length_append, List.length_append, Nat.succ_mul]
    have h2 : (TL.joinL y (q :: r)).length ≤ (r.length + 1) * (k + y.length) := h2
    omega
theorem row_len {ws : List Str} {k : Nat} (h : ∀ w ∈ ws, w.length ≤ k) : (rowT ws).length ≤ ws.length * (k + 1) := by
  rw [TL.len_tl, tl_row]
  have := joinL_len (y := [32]) (k := k) (ps := ws.map TL.tl) fun p hp => by
    obtain ⟨w, hw, rfl⟩ := List.mem_map.mp hp
    rw [← TL.len_tl]
    exact h w hw
  rw [List.length_map] at this
  exact this
theorem text_len {ws : List Str} {k : Nat} (h : ∀ w ∈ ws, w.length ≤ k) : (textT ws).length ≤ ws.length * (k + 1) := by
  unfold textT
  rw [TL.join_eq, TL.len_tl, TL.tl_join, tl_lf]
  have := joinL_len (y := [10]) (k := k) (ps := ws.map TL.tl) fun p hp => by
    obtain ⟨w, hw, rfl⟩ := List.mem_map.mp hp
    rw [← TL.len_tl]
    exact h w hw
  rw [List.length_map] at this
  exact this
theorem sum_len {ws : List Str} {k : Nat} (h : ∀ w ∈ ws, w.length ≤ k) : (ws.map (·.length)).sum ≤ ws.length * k := by
  induction ws with
  | nil => exact Nat.zero_le _
  | cons w r ih =>
    rw [List.map_cons, List.sum_cons, List.length_cons, Nat.succ_mul]
    have := h w List.mem_cons_self
    have := ih fun x hx => h x (List.mem_cons_of_mem _ hx)
    omega
/-! ### the rows of a coder's text -/
theorem log_ok {n : Int} (h : n.natAbs < 100000) : n.natAbs.log2 < 1920 := by
  have h2 : n.natAbs < 2 ^ 64 := by omega
  exact Nat.lt_trans (PySem.Flt.log2_lt_of (by decide) h2) (by decide)
theorem tl_empty : TL.tl Str.empty = [] := rfl
theorem row_pre {w u : Str} (e : TL.tl u = TL.tl w ++ [32]) {ws : List Str} (h : ws ≠ []) : u ++ rowT ws = rowT (w :: ws) := by
  refine TL.ext_tl ?_
  rw [TL.tl_append, tl_row, tl_row, e]
  cases ws with
  | nil => exact absurd rfl h
  | cons v r =>
    show (TL.tl w ++ [32]) ++ TL.joinL [32] (TL.tl v :: r.map TL.tl) = TL.tl w ++ ([32] ++ TL.joinL [32] (TL.tl v :: r.map TL.tl))
    rw [List.append_assoc]
theorem empty_pre (x : Str) : Str.empty ++ x = x := TL.ext_tl (by rw [TL.tl_append, tl_empty]; rfl)
theorem row_one (x : Str) : rowT [x] = x := TL.ext_tl (by rw [tl_row]; rfl)
theorem row_end {x y : Str} (ws : List Str) (z : Str) (hy : TL.tl y = [32]) (h : x = rowT ws) (hne : ws ≠ []) : (x ++ y) ++ z = rowT (ws ++ [z]) := by
  subst h
  refine TL.ext_tl ?_
  rw [TL.tl_append, TL.tl_append, tl_row, tl_row, hy]
  induction ws with
  | nil => exact absurd rfl hne
  | cons v r ih =>
    cases r with
    | nil =>
      show (TL.tl v ++ [32]) ++ TL.tl z = TL.tl v ++ ([32] ++ TL.tl z)
      rw [List.append_assoc]
    | cons u r =>
      have ih := ih (List.cons_ne_nil _ _)
      show ((TL.tl v ++ ([32] ++ TL.joinL [32] (TL.tl u :: r.map TL.tl))) ++ [32]) ++ TL.tl z = TL.tl v ++ ([32] ++ TL.joinL [32] ((u :: r ++ [z]).map TL.tl))
      rw [← ih]
      simp only [List.append_assoc, List.map_cons]
theorem pre_levels : TL.tl "levels " = TL.tl "levels" ++ [32] := by decide +kernel
theorem pre_steps : TL.tl "steps " = TL.tl "steps" ++ [32] := by decide +kernel
theorem pre_move : TL.tl "move " = TL.tl "move" ++ [32] := by decide +kernel
def levW (a b c : Int) : List Str := ["levels", sI a, sI b, sI c]
def stepW (ss : List Int) : List Str := "steps" :: ss.map sI
def movW (p : Int × Int) : List Str := ["move", sI p.1, sI p.2]
theorem lev_f (a b c : Int) : (((((Str.empty ++ "levels ") ++ sI a) ++ " ") ++ sI b) ++ " ") ++ sI c = rowT (levW a b c) := by
  have h1 : (Str.empty ++ "levels ") ++ sI a = rowT ["levels", sI a] := by
    rw [empty_pre, ← row_one (sI a), row_pre pre_levels (by simp), row_one]
  exact row_end ["levels", sI a, sI b] _ tl_blank (row_end ["levels", sI a] _ tl_blank h1 (by simp)) (by simp)
theorem lev_l (a b c : Int) : ("levels " : Str) ++ rowT [sI a, sI b, sI c] = rowT (levW a b c) := row_pre pre_levels (by simp)
theorem step_l {ss : List Int} (h : ss ≠ []) : ("steps " : Str) ++ rowT (ss.map sI) = rowT (stepW ss) := row_pre pre_steps (fun z => h (List.map_eq_nil_iff.mp z))
theorem step_f {ss : List Int} (h : ss ≠ []) : (Str.empty ++ "steps ") ++ rowT (ss.map sI) = rowT (stepW ss) := by rw [empty_pre]; exact step_l h
theorem mov_l (p : Int × Int) : ((("move " : Str) ++ sI p.1) ++ " ") ++ sI p.2 = rowT (movW p) := by
  have h1 : ("move " : Str) ++ sI p.1 = rowT ["move", sI p.1] := by
    rw [← row_one (sI p.1), row_pre pre_move (by simp), row_one]
  exact row_end ["move", sI p.1] _ tl_blank h1 (by simp)
theorem mov_f (p : Int × Int) : (((Str.empty ++ "move ") ++ sI p.1) ++ " ") ++ sI p.2 = rowT (movW p) := by rw [empty_pre]; exact mov_l p
theorem app_len {a b : Str} {i j : Nat} (ha : a.length ≤ i) (hb : b.length ≤ j) : (a ++ b).length ≤ i + j := by
  rw [strLen_append]
  omega
theorem line_of {a : Str} {i : Nat} (ha : a.length ≤ i) (h : i ≤ 1000000) : a.length ≤ sizeLine := Nat.le_trans (Nat.le_trans ha h) (by decide)
theorem len_e : (Str.empty : Str).length ≤ 0 := Nat.le_refl _
theorem len_b : (" " : Str).length ≤ 1 := by decide +kernel
theorem len_levels : ("levels " : Str).length ≤ 7 := by decide +kernel
theorem len_steps : ("steps " : Str).length ≤ 6 := by decide +kernel
theorem len_move : ("move " : Str).length ≤ 5 := by decide +kernel
theorem words_len {ws : List Int} (h : ∀ n ∈ ws, n.natAbs < 100000) : ∀ w ∈ ws.map sI, w.length ≤ 6 := fun w hw => by
  obtain ⟨n, hn, rfl⟩ := List.mem_map.mp hw
  exact sI_len (h n hn)
/-- an f-string of several parts, by a name -/
def tJoin (ts : List TE) : TE := fun σ H Q => tJs ts Str.empty σ H fun out H1 => Q (.str out) H1
theorem pe_joinedN {X : Cx} {v1 v2 : Expr} {rest : List Expr} {ts : List TE} {pos : Pos} (h : PJ X (v1 :: v2 :: rest) ts) : PE X (.JoinedStr (v1 :: v2 :: rest) pos) (tJoin ts) := pe_joined h
end My

/-! a number by its form: of any word -/
namespace My
open PySem PySem.Spec PyProof.Rows L2
theorem dv_snoc (r : List Nat) (d : Nat) : PySem.NumText.digitsVal (r ++ [d]) = PySem.NumText.digitsVal r * 10 + (d - 48) := by
  unfold PySem.NumText.digitsVal
  rw [List.foldl_append]
  rfl
theorem dv_pos {c : Nat} (hc : 49 ≤ c) : ∀ (r : List Nat) (l : Nat), l = r.length → 1 ≤ PySem.NumText.digitsVal (c :: r) := by
  intro r l
  induction l generalizing r with
  | zero =>
    intro h
    have : r = [] := List.length_eq_zero_iff.mp h.symm
    subst this
    show 1 ≤ 0 * 10 + (c - 48)
    omega
  | succ l ih =>
    intro h
    have hne : r ≠ [] := fun e => by rw [e] at h; cases h
    have e := List.dropLast_concat_getLast hne
    have hl : l = r.dropLast.length := by rw [List.length_dropLast]; omega
    have := ih r.dropLast hl
    rw [← e, show c :: (r.dropLast ++ [r.getLast hne]) = (c :: r.dropLast) ++ [r.getLast hne] from rfl, dv_snoc]
    omega
/-- digits without a leading 0 are a number's own -/
theorem numL_back : ∀ (l : Nat) (c : Nat) (r : List Nat), l = r.length → NumText.AllDigits (c :: r) → c ≠ 48 → TL.numL (PySem.NumText.digitsVal (c :: r)) = c :: r := by
  intro l
  induction l with
  | zero =>
    intro c r h hd hc
    have : r = [] := List.length_eq_zero_iff.mp h.symm
    subst this
    have h1 := hd c List.mem_cons_self
    have e : PySem.NumText.digitsVal [c] = c - 48 := by
      show 0 * 10 + (c - 48) = c - 48
      omega
    rw [e, TL.numL_lt (by omega), show 48 + (c - 48) = c by omega]
  | succ l ih =>
    intro c r h hd hc
    have hne : r ≠ [] := fun e => by rw [e] at h; cases h
    have e := List.dropLast_concat_getLast hne
    have hl : l = r.dropLast.length := by rw [List.length_dropLast]; omega
    have hd1 : NumText.AllDigits (c :: r.dropLast) := fun x hx => by
      rcases List.mem_cons.mp hx with z | z
      · exact hd x (by rw [z]; exact List.mem_cons_self)
      · exact hd x (List.mem_cons_of_mem _ (List.dropLast_subset _ z))
    have i := ih c r.dropLast hl hd1 hc
    have hg := hd (r.getLast hne) (List.mem_cons_of_mem _ (List.getLast_mem hne))
    have hc1 := hd c List.mem_cons_self
    have p := dv_pos (c := c) (by omega) r.dropLast _ rfl
    rw [← e, show c :: (r.dropLast ++ [r.getLast hne]) = (c :: r.dropLast) ++ [r.getLast hne] from rfl, dv_snoc]
    generalize r.getLast hne = g at hg
    generalize PySem.NumText.digitsVal (c :: r.dropLast) = v at i p
    rw [TL.numL_step (by omega), show (v * 10 + (g - 48)) / 10 = v by omega, show 48 + (v * 10 + (g - 48)) % 10 = g by omega, i]
theorem dv_lt : ∀ (l : Nat) (r : List Nat), l = r.length → NumText.AllDigits r → PySem.NumText.digitsVal r < 10 ^ l := by
  intro l
  induction l with
  | zero =>
    intro r h _
    have : r = [] := List.length_eq_zero_iff.mp h.symm
    subst this
    decide
  | succ l ih =>
    intro r h hd
    have hne : r ≠ [] := fun e => by rw [e] at h; cases h
    have e := List.dropLast_concat_getLast hne
    have hl : l = r.dropLast.length := by rw [List.length_dropLast]; omega
    have i := ih r.dropLast hl fun x hx => hd x (List.dropLast_subset _ hx)
    have hg := hd (r.getLast hne) (List.getLast_mem hne)
    rw [← e, dv_snoc, Nat.pow_succ]
    omega
theorem dv_5 {r : List Nat} (h : r.length ≤ 5) (hd : NumText.AllDigits r) : PySem.NumText.digitsVal r < 100000 := by
  have := dv_lt _ r rfl hd
  have h2 : 10 ^ r.length ≤ 10 ^ 5 := Nat.pow_le_pow_right (by decide) h
  omega
/-- a number's own text -/
def IsNum (w : Str) : Prop := ∃ n : Int, n.natAbs < 100000 ∧ w = sI n
theorem sI_tl_inj {w : Str} {n : Int} (h : TL.tl w = TL.tl (sI n)) : w = sI n := TL.ext_tl h
/-- of a word with `-`: the signs behind it -/
theorem num_neg {w : Str} {ds : List Nat} (hw : TL.tl w = 45 :: ds) : IsNum w ↔ (1 ≤ ds.length ∧ ds.length ≤ 5) ∧ NumText.AllDigits ds ∧ ds.head? ≠ some 48 := by
  constructor
  · rintro ⟨n, hn, rfl⟩
    rcases sI_cases n with ⟨h, e⟩ | ⟨h, e⟩
    · rw [e] at hw
      have : 45 ∈ TL.numL n.toNat := by rw [hw]; exact List.mem_cons_self
      exact absurd this (TL.numL_free (by decide))
    · rw [e] at hw
      injection hw with _ hw
      subst hw
      refine ⟨⟨numL_pos _, numL_5 (by omega)⟩, TL.numL_digits _, ?_⟩
      obtain ⟨c, r, e2, hc⟩ := numL_head (-n).toNat (by omega)
      rw [e2]
      intro z
      exact hc (Option.some.inj z)
  · rintro ⟨⟨h1, h5⟩, hd, hh⟩
    cases ds with
    | nil => exact absurd h1 (by decide)
    | cons c r =>
      have hc : c ≠ 48 := fun e => hh (by rw [e]; rfl)
      have b := numL_back _ c r rfl hd hc
      have v := dv_5 h5 hd
      have p := dv_pos (c := c) (by have := hd c List.mem_cons_self; omega) r _ rfl
      refine ⟨-((PySem.NumText.digitsVal (c :: r) : Nat) : Int), by omega, sI_tl_inj ?_⟩
      obtain ⟨k, hk⟩ : ∃ k, PySem.NumText.digitsVal (c :: r) = k + 1 := ⟨PySem.NumText.digitsVal (c :: r) - 1, by omega⟩
      rw [hw, hk, show (-((k + 1 : Nat) : Int)) = -((k : Int) + 1) by omega, tl_neg, ← hk, b]
theorem num_pos {w : Str} (hw : ∀ ds, TL.tl w ≠ 45 :: ds) : IsNum w ↔ (1 ≤ (TL.tl w).length ∧ (TL.tl w).length ≤ 5) ∧ NumText.AllDigits (TL.tl w) ∧ (w = "0" ∨ (TL.tl w).head? ≠ some 48) := by
  have e0 : TL.tl (sI 0) = [48] := by
    have e : TL.tl (sI 0) = TL.numL 0 := tl_pos 0
    rw [e, TL.numL_lt (by decide)]
  have z0 : sI 0 = "0" := TL.ext_tl (by rw [e0]; decide +kernel)
  constructor
  · rintro ⟨n, hn, rfl⟩
    rcases sI_cases n with ⟨h, e⟩ | ⟨h, e⟩
    · rw [e]
      refine ⟨⟨numL_pos _, numL_5 (by omega)⟩, TL.numL_digits _, ?_⟩
      by_cases h0 : n = 0
      · left
        rw [h0, z0]
      · right
        obtain ⟨c, r, e2, hc⟩ := numL_head n.toNat (by omega)
        rw [e2]
        intro z
        exact hc (Option.some.inj z)
    · exact absurd e (hw _)
  · rintro ⟨⟨h1, h5⟩, hd, h0 | hh⟩
    · exact ⟨0, by decide, by rw [h0, z0]⟩
    · cases hl : TL.tl w with
      | nil => rw [hl] at h1; exact absurd h1 (by decide)
      | cons c r =>
        rw [hl] at h5 hd hh
        have hc : c ≠ 48 := fun e => hh (by rw [e]; rfl)
        have b := numL_back _ c r rfl hd hc
        have v := dv_5 h5 hd
        refine ⟨((PySem.NumText.digitsVal (c :: r) : Nat) : Int), by omega, sI_tl_inj ?_⟩
        rw [hl, tl_pos, b]
theorem sI_inj {a b : Int} (ha : a.natAbs < 100000) (hb : b.natAbs < 100000) (h : sI a = sI b) : a = b := by
  have e1 := sI_int ha
  rw [h, sI_int hb] at e1
  exact (Option.some.inj e1).symm
end My

/-! a text times a number; list.index within a comprehension -/
namespace My
open PySem PySem.Spec PyProof.Rows L2
theorem fold_size {a : Array Nat} : ∀ (n : Nat) (b : Array Nat), ((List.replicate n a).foldl (fun x y => x ++ y) b).size = b.size + n * a.size
  | 0, b => by simp
  | n + 1, b => by
    rw [List.replicate_succ, List.foldl_cons, fold_size n, Array.size_append, Nat.succ_mul]
    omega
def rRepS : R2 := fun x y H Q => ∃ (z : Str) (n : Nat), x = .str z ∧ y = .int (n : Int) ∧ 2 ≤ n ∧ 1 ≤ z.length ∧ z.length * n ≤ 1000000 ∧ ∀ u : Str, u.length = z.length * n → Q (.str u) H
theorem op_repS {X : Cx} : OpR X (binaryOp .Mult) rRepS := by
  intro pins s σ H x y v u Q I rx ry h
  obtain ⟨z, n, rfl, rfl, h2, h1, hz, q⟩ := h
  obtain ⟨t, rfl⟩ := rx
  obtain ⟨t', rfl⟩ := ry
  have hn : n ≤ 1000000 := Nat.le_trans (Nat.le_mul_of_pos_left n h1) hz
  have e1 : ¬ ((n : Int) < 1) := by omega
  have e2 : ((n : Int) == 1 || z.length == 0) = false := by
    rw [Bool.or_eq_false_iff]
    exact ⟨beq_eq_false_iff_ne.mpr (by omega), beq_eq_false_iff_ne.mpr (by omega)⟩
  have hsz : ((List.replicate (n : Int).toNat z.cps).foldl (fun x y => x ++ y) #[]).size = z.length * n := by
    rw [fold_size, Int.toNat_natCast]
    show 0 + n * z.length = z.length * n
    rw [Nat.zero_add, Nat.mul_comm]
  refine PySem.P.mul_str (x := z) (n := (n : Int)) ?_ (fun _ _ => ?_) (fun _ _ => ?_) ?_
  · rw [decide_eq_false (by omega), decide_eq_false (by omega)]
    rfl
  · have h : (z.length : Int) ≤ (2 ^ 63 - 1) / (n : Int) := by
      rw [Int.le_ediv_iff_mul_le (by omega)]
      have : ((z.length * n : Nat) : Int) ≤ 1000000 := by omega
      rw [Int.natCast_mul] at this
      omega
    omega
  · unfold PySem.Builtin.Str.tooLong
    refine decide_eq_false ?_
    rw [Int.toNat_natCast]
    have : (1000000 : Nat) ≤ sizeLine := by decide
    omega
  · rw [if_neg e1, if_neg (by rw [e2]; decide)]
    refine ⟨?_, ⟨.str _, H, I.tok _, ⟨_, rfl⟩, q _ hsz⟩⟩
    show ((List.replicate (n : Int).toNat z.cps).foldl (fun x y => x ++ y) #[]).size ≤ sizeLine
    rw [hsz]
    exact Nat.le_trans hz (by decide)
theorem mt_indexK {X : Cx} {K : PySem.W.Frag} (h : X.K = K := by rfl) : MtR X "list.index" (rIndex K) := by
  subst h
  exact mt_index
theorem op_in_seqK {X : Cx} {K : PySem.W.Frag} (h : X.K = K := by rfl) : OpR X (compareOp .In) (rIn K false) := by
  subst h
  exact op_in_seq
theorem op_notIn_seqK {X : Cx} {K : PySem.W.Frag} (h : X.K = K := by rfl) : OpR X (compareOp .NotIn) (rIn K true) := by
  subst h
  exact op_notIn_seq
end My

/-! xs != [] of a list of anything: by the lengths -/
namespace My
open PySem PySem.Spec PyProof.Rows L2
def rNeNil (K : PySem.W.Frag) : R2 := fun x y H Q => ∃ (a b : Addr) (xs : List V), x = .ref a ∧ y = .ref b ∧ SqL K H a xs ∧ SqL K H b [] ∧ Q (.bl (!xs.isEmpty)) H
theorem op_neNil {X : Cx} (hu : X.A.units + 64 < cLine) : OpR X (compareOp .NotEq) (rNeNil X.K) := by
  intro pins s σ H x y v u Q I rx ry h
  obtain ⟨a, b, xs, rfl, rfl, ha, hb, q⟩ := h
  cases rx
  cases ry
  obtain ⟨its, r, pl, hz⟩ := I.list ha
  obtain ⟨its2, r2, pl2, hz2⟩ := I.list hb
  have e2 : its2 = [] := by
    have := r2.length
    cases its2 with
    | nil => rfl
    | cons => cases this
  subst e2
  have hu' : X.A.units < cLine := by omega
  cases xs with
  | nil =>
    have e1 : its = [] := by
      have := r.length
      cases its with
      | nil => rfl
      | cons => cases this
    subst e1
    exact SeqAt.RcNeAt.lists (e := fun _ => true) pl.isList pl2.isList rfl hu' (fun j h1 _ => by exact absurd h1 (by simp)) X.prog X.w _ _ ⟨.bl _, H, I, rfl, q⟩
  | cons x xs =>
    refine SeqAt.RcNeAt.lists_lengths pl.isList pl2.isList ?_ hu' X.prog X.w _ _ ⟨.bl _, H, I, rfl, q⟩
    have := r.length
    cases its with
    | nil => cases this
    | cons => rfl
end My

/-! rules within a comprehension within a comprehension: the written part by its own name -/
namespace My
open PySem PySem.Spec PyProof.Rows L2
def rTupleOf (K : PySem.W.Frag) : List V → Hp → VK → Prop := fun xs H Q => ∃ p ys, xs = [.ref p] ∧ ((SqL K H p ys ∧ ∀ l, H l = none → Q (.ref l) (upd H l (.tup ys))) ∨ (SqT K H p ys ∧ Q (.ref p) H))
theorem call_tuple_ofK {X : Cx} {K : PySem.W.Frag} (h : X.K = K := by rfl) : CallR X (.type "tuple") (rTupleOf K) := by
  subst h
  exact call_tuple_of
theorem sl_listK {X : Cx} {K : PySem.W.Frag} (h : X.K = K := by rfl) : SlR X (rSlL K) := by
  subst h
  exact sl_list
theorem pi_listK {X : Cx} {K : PySem.W.Frag} {tg l : Expr} {tl : TE} (hl : PE X l tl) (h : X.K = K := by rfl) : PI X tg l (iList K tl) := by
  subst h
  exact pi_list hl
/-- the scope of the comprehension that a statement sets -/
def scOf : Stmt → Scope
  | .Assign _ (.ListComp _ _ sc _) _ => sc
  | s => defScope s
end My

namespace My
open PySem PySem.Spec PyProof.Rows L2
def top (i : Nat) : Stmt := PySem.Challenge.pw_stepsound_k26_whole_wrong_texts_of_coder.main.body.getD i (.Pass ⟨0, 0, 0, 0⟩)
abbrev s_is_integer : Stmt := top 4
abbrev s_is_between : Stmt := top 5
abbrev s_is_pair : Stmt := top 6
abbrev s_need_coder : Stmt := top 8
abbrev s_first_fault : Stmt := top 9
abbrev s_fault_of_steps : Stmt := top 10
abbrev s_fault_of_moves : Stmt := top 11
abbrev s_is_tuple_of : Stmt := top 12
abbrev s_is_move : Stmt := top 13
abbrev s_is_fade : Stmt := top 14
abbrev s_read_coder : Stmt := top 17
abbrev s_need_text : Stmt := top 18
abbrev s_need_no_empty_word : Stmt := top 19
abbrev s_need_coder_row : Stmt := top 20
abbrev s_need_row_form : Stmt := top 21
abbrev s_is_number : Stmt := top 22
abbrev s_numbers_of : Stmt := top 23
abbrev s_law_begun : Stmt := top 25
abbrev s_law_next : Stmt := top 26
abbrev s_law_outcome : Stmt := top 27
abbrev s_law_number : Stmt := top 28
abbrev s_law_row_fault : Stmt := top 29
abbrev s_law_is_pair : Stmt := top 30
abbrev s_law_fault : Stmt := top 31
abbrev s_law_due : Stmt := top 32
abbrev s_law_text : Stmt := top 33
abbrev s_law_bent_row : Stmt := top 34
abbrev s_law_bent : Stmt := top 35
abbrev s_law : Stmt := top 36
abbrev si_BadCoder : Stmt := inClass (top 1) 0
theorem sci_BadCoder : FnScope ["self", "part", "number"] ["self", "part", "number"] (defScope si_BadCoder) := ⟨rfl, rfl, rfl, by decide +kernel, rfl, by decide +kernel, by decide +kernel⟩
abbrev si_BadRow : Stmt := inClass (top 2) 0
theorem sci_BadRow : FnScope ["self", "row", "word"] ["self", "row", "word"] (defScope si_BadRow) := ⟨rfl, rfl, rfl, by decide +kernel, rfl, by decide +kernel, by decide +kernel⟩
theorem sc_is_integer : FnScope ["thing"] ["thing"] (defScope s_is_integer) := ⟨rfl, rfl, rfl, by decide +kernel, rfl, by decide +kernel, by decide +kernel⟩
theorem sc_is_between : FnScope ["thing", "least", "most"] ["thing", "least", "most"] (defScope s_is_between) := ⟨rfl, rfl, rfl, by decide +kernel, rfl, by decide +kernel, by decide +kernel⟩
theorem sc_is_pair : FnScope ["thing"] ["thing"] (defScope s_is_pair) := ⟨rfl, rfl, rfl, by decide +kernel, rfl, by decide +kernel, by decide +kernel⟩
theorem sc_need_coder : FnScope ["thing", "fault"] ["thing"] (defScope s_need_coder) := ⟨rfl, rfl, rfl, by decide +kernel, rfl, by decide +kernel, by decide +kernel⟩
theorem sc_first_fault : FnScope ["thing", "low", "high", "steps", "moves", "fade", "fault"] ["thing"] (defScope s_first_fault) := ⟨rfl, rfl, rfl, by decide +kernel, rfl, by decide +kernel, by decide +kernel⟩
theorem sc_fault_of_steps : FnScope ["steps", "index", "step"] ["steps"] (defScope s_fault_of_steps) := ⟨rfl, rfl, rfl, by decide +kernel, rfl, by decide +kernel, by decide +kernel⟩
theorem sc_fault_of_moves : FnScope ["moves", "index", "move"] ["moves"] (defScope s_fault_of_moves) := ⟨rfl, rfl, rfl, by decide +kernel, rfl, by decide +kernel, by decide +kernel⟩
theorem sc_is_tuple_of : FnScope ["thing", "least", "most"] ["thing", "least", "most"] (defScope s_is_tuple_of) := ⟨rfl, rfl, rfl, by decide +kernel, rfl, by decide +kernel, by decide +kernel⟩
theorem sc_is_move : FnScope ["thing"] ["thing"] (defScope s_is_move) := ⟨rfl, rfl, rfl, by decide +kernel, rfl, by decide +kernel, by decide +kernel⟩
theorem sc_is_fade : FnScope ["thing"] ["thing"] (defScope s_is_fade) := ⟨rfl, rfl, rfl, by decide +kernel, rfl, by decide +kernel, by decide +kernel⟩
theorem sc_read_coder : FnScope ["text", "rows", "index", "words", "low", "high", "fade", "steps", "moves", "row"] ["text"] (defScope s_read_coder) := ⟨rfl, rfl, rfl, by decide +kernel, rfl, by decide +kernel, by decide +kernel⟩
theorem sc_need_text : FnScope ["thing"] ["thing"] (defScope s_need_text) := ⟨rfl, rfl, rfl, by decide +kernel, rfl, by decide +kernel, by decide +kernel⟩
theorem sc_need_no_empty_word : FnScope ["row", "words"] ["row", "words"] (defScope s_need_no_empty_word) := ⟨rfl, rfl, rfl, by decide +kernel, rfl, by decide +kernel, by decide +kernel⟩
theorem sc_need_coder_row : FnScope ["index", "words"] ["index", "words"] (defScope s_need_coder_row) := ⟨rfl, rfl, rfl, by decide +kernel, rfl, by decide +kernel, by decide +kernel⟩
theorem sc_need_row_form : FnScope ["row", "words", "name", "least", "most", "index"] ["row", "words", "name", "least", "most"] (defScope s_need_row_form) := ⟨rfl, rfl, rfl, by decide +kernel, rfl, by decide +kernel, by decide +kernel⟩
theorem sc_is_number : FnScope ["word", "digits", "sign"] ["word"] (defScope s_is_number) := ⟨rfl, rfl, rfl, by decide +kernel, rfl, by decide +kernel, by decide +kernel⟩
theorem sc_numbers_of : FnScope ["words", "word"] ["words"] (defScope s_numbers_of) := ⟨rfl, rfl, rfl, by decide +kernel, rfl, by decide +kernel, by decide +kernel⟩
theorem sc_law_begun : FnScope ["script", "cell"] ["script"] (defScope s_law_begun) := ⟨rfl, rfl, rfl, by decide +kernel, rfl, by decide +kernel, by decide +kernel⟩
theorem sc_law_next : FnScope ["m", "many", "rest", "k", "cell", "mixed"] ["m", "many"] (defScope s_law_next) := ⟨rfl, rfl, rfl, by decide +kernel, rfl, by decide +kernel, by decide +kernel⟩
theorem sc_law_outcome : FnScope ["text", "found", "e"] ["text"] (defScope s_law_outcome) := ⟨rfl, rfl, rfl, by decide +kernel, rfl, by decide +kernel, by decide +kernel⟩
theorem sc_law_number : FnScope ["word", "body", "sign"] ["word"] (defScope s_law_number) := ⟨rfl, rfl, rfl, by decide +kernel, rfl, by decide +kernel, by decide +kernel⟩
theorem sc_law_row_fault : FnScope ["words", "name", "least", "most", "k", "word"] ["words", "name", "least", "most"] (defScope s_law_row_fault) := ⟨rfl, rfl, rfl, by decide +kernel, rfl, by decide +kernel, by decide +kernel⟩
theorem sc_law_is_pair : FnScope ["move"] ["move"] (defScope s_law_is_pair) := ⟨rfl, rfl, rfl, by decide +kernel, rfl, by decide +kernel, by decide +kernel⟩
theorem sc_law_fault : FnScope ["low", "high", "steps", "moves", "fade", "wrong", "k", "step", "move"] ["low", "high", "steps", "moves", "fade"] (defScope s_law_fault) := ⟨rfl, rfl, rfl, by decide +kernel, rfl, by decide +kernel, by decide +kernel⟩
theorem sc_law_due : FnScope ["text", "rows", "k", "row", "words", "name", "least", "most", "fault", "told", "word"] ["text"] (defScope s_law_due) := ⟨rfl, rfl, rfl, by decide +kernel, rfl, by decide +kernel, by decide +kernel⟩
theorem sc_law_text : FnScope ["m", "low", "high", "rows", "k"] ["m"] (defScope s_law_text) := ⟨rfl, rfl, rfl, by decide +kernel, rfl, by decide +kernel, by decide +kernel⟩
theorem sc_law_bent_row : FnScope ["m", "row", "words", "at", "some", "word", "way"] ["m", "row"] (defScope s_law_bent_row) := ⟨rfl, rfl, rfl, by decide +kernel, rfl, by decide +kernel, by decide +kernel⟩
theorem sc_law_bent : FnScope ["m", "text", "way", "place", "sign", "kept", "rows", "at", "to", "times"] ["m", "text"] (defScope s_law_bent) := ⟨rfl, rfl, rfl, by decide +kernel, rfl, by decide +kernel, by decide +kernel⟩
theorem sc_law : FnScope ["script", "m", "thing", "some", "due", "text", "turn", "k"] ["script"] (defScope s_law) := ⟨rfl, rfl, rfl, by decide +kernel, rfl, by decide +kernel, by decide +kernel⟩
structure Txt0 (K : PySem.W.Frag) (mg : Str → Option Value) where
  f_is_integer : Addr
  d_is_integer : FuncData
  F_is_integer : Fun K "is_integer" "is_integer" s_is_integer f_is_integer d_is_integer
  b_is_integer : Binds K d_is_integer ["thing"] []
  g_is_integer : mg "is_integer" = some (.ref f_is_integer)
  f_is_between : Addr
  d_is_between : FuncData
  F_is_between : Fun K "is_between" "is_between" s_is_between f_is_between d_is_between
  b_is_between : Binds K d_is_between ["thing", "least", "most"] []
  g_is_between : mg "is_between" = some (.ref f_is_between)
  f_is_pair : Addr
  d_is_pair : FuncData
  F_is_pair : Fun K "is_pair" "is_pair" s_is_pair f_is_pair d_is_pair
  b_is_pair : Binds K d_is_pair ["thing"] []
  g_is_pair : mg "is_pair" = some (.ref f_is_pair)
  f_need_coder : Addr
  d_need_coder : FuncData
  F_need_coder : Fun K "need_coder" "need_coder" s_need_coder f_need_coder d_need_coder
  b_need_coder : Binds K d_need_coder ["thing"] []
  g_need_coder : mg "need_coder" = some (.ref f_need_coder)
  f__first_fault : Addr
  d__first_fault : FuncData
  F__first_fault : Fun K "_first_fault" "_first_fault" s_first_fault f__first_fault d__first_fault
  b__first_fault : Binds K d__first_fault ["thing"] []
  g__first_fault : mg "_first_fault" = some (.ref f__first_fault)
  f__fault_of_steps : Addr
  d__fault_of_steps : FuncData
  F__fault_of_steps : Fun K "_fault_of_steps" "_fault_of_steps" s_fault_of_steps f__fault_of_steps d__fault_of_steps
  b__fault_of_steps : Binds K d__fault_of_steps ["steps"] []
  g__fault_of_steps : mg "_fault_of_steps" = some (.ref f__fault_of_steps)
  f__fault_of_moves : Addr
  d__fault_of_moves : FuncData
  F__fault_of_moves : Fun K "_fault_of_moves" "_fault_of_moves" s_fault_of_moves f__fault_of_moves d__fault_of_moves
  b__fault_of_moves : Binds K d__fault_of_moves ["moves"] []
  g__fault_of_moves : mg "_fault_of_moves" = some (.ref f__fault_of_moves)
  f__is_tuple_of : Addr
  d__is_tuple_of : FuncData
  F__is_tuple_of : Fun K "_is_tuple_of" "_is_tuple_of" s_is_tuple_of f__is_tuple_of d__is_tuple_of
  b__is_tuple_of : Binds K d__is_tuple_of ["thing", "least", "most"] []
  g__is_tuple_of : mg "_is_tuple_of" = some (.ref f__is_tuple_of)
  f__is_move : Addr
  d__is_move : FuncData
  F__is_move : Fun K "_is_move" "_is_move" s_is_move f__is_move d__is_move
  b__is_move : Binds K d__is_move ["thing"] []
  g__is_move : mg "_is_move" = some (.ref f__is_move)
  f__is_fade : Addr
  d__is_fade : FuncData
  F__is_fade : Fun K "_is_fade" "_is_fade" s_is_fade f__is_fade d__is_fade
  b__is_fade : Binds K d__is_fade ["thing"] []
  g__is_fade : mg "_is_fade" = some (.ref f__is_fade)
structure Txt1 (K : PySem.W.Frag) (mg : Str → Option Value) extends Txt0 K mg where
  f_read_coder : Addr
  d_read_coder : FuncData
  F_read_coder : Fun K "read_coder" "read_coder" s_read_coder f_read_coder d_read_coder
  b_read_coder : Binds K d_read_coder ["text"] []
  g_read_coder : mg "read_coder" = some (.ref f_read_coder)
  f__need_text : Addr
  d__need_text : FuncData
  F__need_text : Fun K "_need_text" "_need_text" s_need_text f__need_text d__need_text
  b__need_text : Binds K d__need_text ["thing"] []
  g__need_text : mg "_need_text" = some (.ref f__need_text)
  f__need_no_empty_word : Addr
  d__need_no_empty_word : FuncData
  F__need_no_empty_word : Fun K "_need_no_empty_word" "_need_no_empty_word" s_need_no_empty_word f__need_no_empty_word d__need_no_empty_word
  b__need_no_empty_word : Binds K d__need_no_empty_word ["row", "words"] []
  g__need_no_empty_word : mg "_need_no_empty_word" = some (.ref f__need_no_empty_word)
  f__need_coder_row : Addr
  d__need_coder_row : FuncData
  F__need_coder_row : Fun K "_need_coder_row" "_need_coder_row" s_need_coder_row f__need_coder_row d__need_coder_row
  b__need_coder_row : Binds K d__need_coder_row ["index", "words"] []
  g__need_coder_row : mg "_need_coder_row" = some (.ref f__need_coder_row)
  f__need_row_form : Addr
  d__need_row_form : FuncData
  F__need_row_form : Fun K "_need_row_form" "_need_row_form" s_need_row_form f__need_row_form d__need_row_form
  b__need_row_form : Binds K d__need_row_form ["row", "words", "name", "least", "most"] []
  g__need_row_form : mg "_need_row_form" = some (.ref f__need_row_form)
  f__is_number : Addr
  d__is_number : FuncData
  F__is_number : Fun K "_is_number" "_is_number" s_is_number f__is_number d__is_number
  b__is_number : Binds K d__is_number ["word"] []
  g__is_number : mg "_is_number" = some (.ref f__is_number)
  f__numbers_of : Addr
  d__numbers_of : FuncData
  F__numbers_of : Fun K "_numbers_of" "_numbers_of" s_numbers_of f__numbers_of d__numbers_of
  b__numbers_of : Binds K d__numbers_of ["words"] []
  g__numbers_of : mg "_numbers_of" = some (.ref f__numbers_of)
  f__law_begun : Addr
  d__law_begun : FuncData
  F__law_begun : Fun K "_law_begun" "_law_begun" s_law_begun f__law_begun d__law_begun
  b__law_begun : Binds K d__law_begun ["script"] []
  g__law_begun : mg "_law_begun" = some (.ref f__law_begun)
  f__law_next : Addr
  d__law_next : FuncData
  F__law_next : Fun K "_law_next" "_law_next" s_law_next f__law_next d__law_next
  b__law_next : Binds K d__law_next ["m", "many"] []
  g__law_next : mg "_law_next" = some (.ref f__law_next)
  f__law_outcome : Addr
  d__law_outcome : FuncData
  F__law_outcome : Fun K "_law_outcome" "_law_outcome" s_law_outcome f__law_outcome d__law_outcome
  b__law_outcome : Binds K d__law_outcome ["text"] []
  g__law_outcome : mg "_law_outcome" = some (.ref f__law_outcome)
structure Txt2 (K : PySem.W.Frag) (mg : Str → Option Value) extends Txt1 K mg where
  f__law_number : Addr
  d__law_number : FuncData
  F__law_number : Fun K "_law_number" "_law_number" s_law_number f__law_number d__law_number
  b__law_number : Binds K d__law_number ["word"] []
  g__law_number : mg "_law_number" = some (.ref f__law_number)
  f__law_row_fault : Addr
  d__law_row_fault : FuncData
  F__law_row_fault : Fun K "_law_row_fault" "_law_row_fault" s_law_row_fault f__law_row_fault d__law_row_fault
  b__law_row_fault : Binds K d__law_row_fault ["words", "name", "least", "most"] []
  g__law_row_fault : mg "_law_row_fault" = some (.ref f__law_row_fault)
  f__law_is_pair : Addr
  d__law_is_pair : FuncData
  F__law_is_pair : Fun K "_law_is_pair" "_law_is_pair" s_law_is_pair f__law_is_pair d__law_is_pair
  b__law_is_pair : Binds K d__law_is_pair ["move"] []
  g__law_is_pair : mg "_law_is_pair" = some (.ref f__law_is_pair)
  f__law_fault : Addr
  d__law_fault : FuncData
  F__law_fault : Fun K "_law_fault" "_law_fault" s_law_fault f__law_fault d__law_fault
  b__law_fault : Binds K d__law_fault ["low", "high", "steps", "moves", "fade"] []
  g__law_fault : mg "_law_fault" = some (.ref f__law_fault)
  f__law_due : Addr
  d__law_due : FuncData
  F__law_due : Fun K "_law_due" "_law_due" s_law_due f__law_due d__law_due
  b__law_due : Binds K d__law_due ["text"] []
  g__law_due : mg "_law_due" = some (.ref f__law_due)
  f__law_text : Addr
  d__law_text : FuncData
  F__law_text : Fun K "_law_text" "_law_text" s_law_text f__law_text d__law_text
  b__law_text : Binds K d__law_text ["m"] []
  g__law_text : mg "_law_text" = some (.ref f__law_text)
  f__law_bent_row : Addr
  d__law_bent_row : FuncData
  F__law_bent_row : Fun K "_law_bent_row" "_law_bent_row" s_law_bent_row f__law_bent_row d__law_bent_row
  b__law_bent_row : Binds K d__law_bent_row ["m", "row"] []
  g__law_bent_row : mg "_law_bent_row" = some (.ref f__law_bent_row)
  f__law_bent : Addr
  d__law_bent : FuncData
  F__law_bent : Fun K "_law_bent" "_law_bent" s_law_bent f__law_bent d__law_bent
  b__law_bent : Binds K d__law_bent ["m", "text"] []
  g__law_bent : mg "_law_bent" = some (.ref f__law_bent)
  f_law : Addr
  d_law : FuncData
  F_law : Fun K "law" "law" s_law f_law d_law
  b_law : Binds K d_law ["script"] []
  g_law : mg "law" = some (.ref f_law)
structure Txt (K : PySem.W.Frag) (mg : Str → Option Value) extends Txt2 K mg where
  z_all : mg "all" = none
  z_bool : mg "bool" = none
  z_enumerate : mg "enumerate" = none
  z_int : mg "int" = none
  z_isinstance : mg "isinstance" = none
  z_len : mg "len" = none
  z_list : mg "list" = none
  z_min : mg "min" = none
  z_range : mg "range" = none
  z_repr : mg "repr" = none
  z_str : mg "str" = none
  z_tuple : mg "tuple" = none
  C_BadCoder : Addr
  fi_BadCoder : Addr
  di_BadCoder : FuncData
  g_BadCoder : mg "BadCoder" = some (.ref C_BadCoder)
  o_BadCoder : OexC K C_BadCoder
  i_BadCoder : PySem.W.findIn K (.ref C_BadCoder) "__init__" = some (some (.ref fi_BadCoder))
  t_BadCoder : PySem.W.typeIn K (.ref fi_BadCoder) = some (.type "function")
  x_BadCoder : XfC K C_BadCoder
  n_BadCoder_part : PySem.W.findIn K (.ref C_BadCoder) "part" = some none
  n_BadCoder_number : PySem.W.findIn K (.ref C_BadCoder) "number" = some none
  Fi_BadCoder : Fun K "__init__" "BadCoder.__init__" si_BadCoder fi_BadCoder di_BadCoder
  bi_BadCoder : Binds K di_BadCoder ["self", "part", "number"] []
  e_BadCoder : PySem.W.exmOne K (.ref C_BadCoder) (.ref C_BadCoder) = some true
  C_BadRow : Addr
  fi_BadRow : Addr
  di_BadRow : FuncData
  g_BadRow : mg "BadRow" = some (.ref C_BadRow)
  o_BadRow : OexC K C_BadRow
  i_BadRow : PySem.W.findIn K (.ref C_BadRow) "__init__" = some (some (.ref fi_BadRow))
  t_BadRow : PySem.W.typeIn K (.ref fi_BadRow) = some (.type "function")
  x_BadRow : XfC K C_BadRow
  n_BadRow_row : PySem.W.findIn K (.ref C_BadRow) "row" = some none
  n_BadRow_word : PySem.W.findIn K (.ref C_BadRow) "word" = some none
  Fi_BadRow : Fun K "__init__" "BadRow.__init__" si_BadRow fi_BadRow di_BadRow
  bi_BadRow : Binds K di_BadRow ["self", "row", "word"] []
  e_BadRow : PySem.W.exmOne K (.ref C_BadRow) (.ref C_BadRow) = some true
  e_BadCoder_BadRow : PySem.W.exmOne K (.ref C_BadCoder) (.ref C_BadRow) = some false
  e_BadRow_BadCoder : PySem.W.exmOne K (.ref C_BadRow) (.ref C_BadCoder) = some false
  vV : PySem.W.findCls K (.type "ValueError") (.type "type") "__init__" = some (.val (.builtin "ValueError.__init__"))
  zV : mg "ValueError" = none
  t_DIGITS : Tok
  g_DIGITS : mg "DIGITS" = some (.str "0123456789" t_DIGITS)

end My

namespace My
open PySem PySem.Spec PyProof.Rows L2
/-! ### things and their kinds -/
def tyN : PyData → String
  | .none => "NoneType"
  | .bool _ => "bool"
  | .int _ => "int"
  | .str _ => "str"
  | .list _ => "list"
  | .tuple _ => "tuple"
  | .dict _ => "dict"
def isT : PyData → Bool
  | .tuple _ => true
  | _ => false
def isI : PyData → Bool
  | .int _ => true
  | .bool _ => true
  | _ => false
def isB : PyData → Bool
  | .bool _ => true
  | _ => false
theorem tyx {K : PySem.W.Frag} {H : Hp} {v : V} {d : PyData} (h : Dp K H v d) : TyX K H v (.type (tyN d)) := by
  cases h with
  | non => exact .base .non
  | bl b => exact .base (.bl b)
  | int i => exact .base (.int i)
  | str x => exact .base (.str x)
  | lst h _ =>
    rcases h with (h | ⟨o, h⟩) | ⟨o, its, n, h, hc, _⟩
    · exact .base (.lst h)
    · exact .base (.frz h)
    · exact .kList h hc
  | tup h _ =>
    rcases h with (h | ⟨o, h⟩) | ⟨o, its, n, h, hc, _⟩
    · exact .base (.tup h)
    · exact .fTuple h
    · exact .kTuple h hc
theorem kitI {K : PySem.W.Frag} : ∀ d : PyData, PySem.W.kitOne K (.type (tyN d)) (.type "int") = some (isI d)
  | .none => kit_ty (a := "NoneType") (b := "int") (r := false) (by decide +kernel)
  | .bool _ => kit_ty (a := "bool") (b := "int") (r := true) (by decide +kernel)
  | .int _ => kit_ty (a := "int") (b := "int") (r := true) (by decide +kernel)
  | .str _ => kit_ty (a := "str") (b := "int") (r := false) (by decide +kernel)
  | .list _ => kit_ty (a := "list") (b := "int") (r := false) (by decide +kernel)
  | .tuple _ => kit_ty (a := "tuple") (b := "int") (r := false) (by decide +kernel)
  | .dict _ => kit_ty (a := "dict") (b := "int") (r := false) (by decide +kernel)
theorem kitBo {K : PySem.W.Frag} : ∀ d : PyData, PySem.W.kitOne K (.type (tyN d)) (.type "bool") = some (isB d)
  | .none => kit_ty (a := "NoneType") (b := "bool") (r := false) (by decide +kernel)
  | .bool _ => kit_ty (a := "bool") (b := "bool") (r := true) (by decide +kernel)
  | .int _ => kit_ty (a := "int") (b := "bool") (r := false) (by decide +kernel)
  | .str _ => kit_ty (a := "str") (b := "bool") (r := false) (by decide +kernel)
  | .list _ => kit_ty (a := "list") (b := "bool") (r := false) (by decide +kernel)
  | .tuple _ => kit_ty (a := "tuple") (b := "bool") (r := false) (by decide +kernel)
  | .dict _ => kit_ty (a := "dict") (b := "bool") (r := false) (by decide +kernel)
theorem kitT {K : PySem.W.Frag} : ∀ d : PyData, PySem.W.kitOne K (.type (tyN d)) (.type "tuple") = some (isT d)
  | .none => kit_ty (a := "NoneType") (b := "tuple") (r := false) (by decide +kernel)
  | .bool _ => kit_ty (a := "bool") (b := "tuple") (r := false) (by decide +kernel)
  | .int _ => kit_ty (a := "int") (b := "tuple") (r := false) (by decide +kernel)
  | .str _ => kit_ty (a := "str") (b := "tuple") (r := false) (by decide +kernel)
  | .list _ => kit_ty (a := "list") (b := "tuple") (r := false) (by decide +kernel)
  | .tuple _ => kit_ty (a := "tuple") (b := "tuple") (r := true) (by decide +kernel)
  | .dict _ => kit_ty (a := "dict") (b := "tuple") (r := false) (by decide +kernel)
def btw (d : PyData) (lo hi : Int) : Bool := match d with
  | .int n => decide (lo ≤ n) && decide (n ≤ hi)
  | _ => false
def pairD : PyData → Bool
  | .tuple ds => decide ((ds.length : Int) = 2)
  | _ => false
theorem dpAll_len {K : PySem.W.Frag} {H : Hp} : ∀ {xs : List V} {ds : List PyData}, DpAll K H xs ds → xs.length = ds.length
  | _, _, .nil => rfl
  | _, _, .cons _ t => congrArg (· + 1) (dpAll_len t)
theorem dpAll_get {K : PySem.W.Frag} {H : Hp} : ∀ {xs : List V} {ds : List PyData} {i : Nat} {x : V}, DpAll K H xs ds → xs[i]? = some x → ∃ d, ds[i]? = some d ∧ Dp K H x d
  | _, _, _, _, .nil, h => by simp at h
  | _, _, 0, _, .cons h t, e => by
    simp at e
    subst e
    exact ⟨_, by simp, h⟩
  | _, _, i + 1, x, .cons h t, e => by
    obtain ⟨d, h1, h2⟩ := dpAll_get (i := i) (x := x) t (by simpa using e)
    exact ⟨d, by simpa using h1, h2⟩
theorem dpAll_get' {K : PySem.W.Frag} {H : Hp} {xs : List V} {ds : List PyData} {i : Nat} {d : PyData} (h : DpAll K H xs ds) (e : ds[i]? = some d) : ∃ x, xs[i]? = some x ∧ Dp K H x d := by
  have hl := dpAll_len h
  have hi := (List.getElem?_eq_some_iff.mp e).1
  obtain ⟨d', h1, h2⟩ := dpAll_get (i := i) (x := xs[i]) h (List.getElem?_eq_getElem (by omega))
  rw [e] at h1
  cases h1
  exact ⟨_, List.getElem?_eq_getElem (by omega), h2⟩
mutual
theorem dp_same {K : PySem.W.Frag} {H H' : Hp} (s : Same H H') : ∀ (d : PyData) (v : V), Dp K H v d → Dp K H' v d
  | .none, _, h => by cases h; exact .non
  | .bool _, _, h => by cases h; exact .bl _
  | .int _, _, h => by cases h; exact .int _
  | .str _, _, h => by cases h; exact .str _
  | .list ds, _, h => by
    cases h with
    | lst a b => exact .lst (s.seq a) (dpAll_same s ds _ b)
  | .tuple ds, _, h => by
    cases h with
    | tup a b => exact .tup (same_tup s a) (dpAll_same s ds _ b)
  | .dict _, _, h => by cases h
theorem dpAll_same {K : PySem.W.Frag} {H H' : Hp} (s : Same H H') : ∀ (ds : List PyData) (vs : List V), DpAll K H vs ds → DpAll K H' vs ds
  | [], _, h => by cases h; exact .nil
  | d :: ds, _, h => by
    cases h with
    | cons a b => exact .cons (dp_same s d _ a) (dpAll_same s ds _ b)
end
theorem dp_tup {K : PySem.W.Frag} {H : Hp} {v : V} {ds : List PyData} (h : Dp K H v (.tuple ds)) : ∃ a xs, v = .ref a ∧ SqT K H a xs ∧ DpAll K H xs ds := by
  cases h with
  | tup a b => exact ⟨_, _, rfl, a, b⟩
/-- hands back the value z, all stands -/
def Pure (K : PySem.W.Frag) (vs : List V) (H : Hp) (Q : VK) (args : List V) (z : V) : Prop := vs = args ∧ ∀ H', Same H H' → Q z H'
section
variable {P : Program} {w : World} {K : PySem.W.Frag} {mg : Str → Option Value} {base : Heap}
def intD (d : PyData) : Bool := isI d && !isB d
def sp_is_integer (K : PySem.W.Frag) : Sp := fun vs H Q _ => ∃ (x : V) (d : PyData), vs = [x] ∧ Dp K H x d ∧ ∀ H', Same H H' → Q (.bl (intD d)) H'
theorem ok_is_integer (T : Txt K mg) : FnOk P w K mg base CX0 1 T.f_is_integer T.d_is_integer ["thing"] (sp_is_integer K) := by
  refine T.F_is_integer.ok sc_is_integer (fun vs H Q E h => ?_) (fun cdv A outer s H vs Q E hr h => ?_)
  · obtain ⟨x, d, rfl, _⟩ := h
    rfl
  · obtain ⟨x, d, rfl, hd, q⟩ := h
    refine ⟨_,
(pss_one (ps_ret (pe_and (pe_callB (call_isi) (by rfl) T.z_isinstance (by decide +kernel) (pa_cons (pv 0) (pa_cons (pe_bltn (v := .ty "int") (by rfl) T.z_int (by decide +kernel) rfl) pa_nil))) (pe_one (pe_not (pe_callB (call_isi) (by rfl) T.z_isinstance (by decide +kernel) (pa_cons (pv 0) (pa_cons (pe_bltn (v := .ty "bool") (by rfl) T.z_bool (by decide +kernel) rfl) pa_nil))))))))
, ?_⟩
    have q' : ∀ b, intD d = b → Q (.bl b) H := fun b e => e ▸ q H (Same.refl H)
    refine ⟨x, rfl, x, .ty "int", _, _, _, rfl, .ty _, tyx hd, kitI d, _, rfl, ?_⟩
    cases h1 : isI d with
    | false => exact iteF (q' _ (by unfold intD; rw [h1]; rfl))
    | true =>
      refine iteT ?_
      refine ⟨_, rfl, _, .ty "bool", _, _, _, rfl, .ty _, tyx hd, kitBo d, _, rfl, ?_⟩
      exact q' _ (by unfold intD; rw [h1]; rfl)
theorem btw_not {d : PyData} (h : intD d = false) (lo hi : Int) : btw d lo hi = false := by
  cases d <;> first | rfl | cases h
theorem intD_int {d : PyData} (h : intD d = true) : ∃ n, d = .int n := by
  cases d <;> first | exact ⟨_, rfl⟩ | cases h
def sp_is_between (K : PySem.W.Frag) : Sp := fun vs H Q _ => ∃ (x : V) (d : PyData) (lo hi : Int), vs = [x, .int lo, .int hi] ∧ Dp K H x d ∧ ∀ H', Same H H' → Q (.bl (btw d lo hi)) H'
theorem ok_is_between (T : Txt K mg) : FnOk P w K mg base CX0 2 T.f_is_between T.d_is_between ["thing", "least", "most"] (sp_is_between K) := by
  refine T.F_is_between.ok sc_is_between (fun vs H Q E h => ?_) (fun cdv A outer s H vs Q E hr h => ?_)
  · obtain ⟨x, d, lo, hi, rfl, _⟩ := h
    rfl
  · obtain ⟨x, d, lo, hi, rfl, hd, q⟩ := h
    refine ⟨_,
(pss_one (ps_ret (pe_and (pe_call (ok_is_integer T) (hr.mono (by decide)) (by rfl) T.g_is_integer T.F_is_integer.kp T.b_is_integer .nil pass0 (pa_cons (pv 0) pa_nil)) (pe_one (pe_chain op_le op_le (pv 1) (pv 0) (pv 2))))))
, ?_⟩
    refine ⟨x, rfl, x, d, rfl, hd, fun H1 s1 => ⟨_, rfl, ?_⟩⟩
    have q' : ∀ b, btw d lo hi = b → Q (.bl b) H1 := fun b e => e ▸ q H1 s1
    cases h1 : intD d with
    | false => exact iteF (q' _ (btw_not h1 lo hi))
    | true =>
      obtain ⟨n, rfl⟩ := intD_int h1
      cases hd
      refine iteT ?_
      refine ⟨_, rfl, _, rfl, lo, n, rfl, rfl, _, rfl, ?_⟩
      refine ite2 (fun e => ?_) (fun e => ?_)
      · refine ⟨_, rfl, n, hi, rfl, rfl, ?_⟩
        exact q' _ (by show (decide (lo ≤ n) && decide (n ≤ hi)) = _; rw [e]; rfl)
      · exact q' _ (by show (decide (lo ≤ n) && decide (n ≤ hi)) = _; rw [Bool.not_eq_true] at e; rw [e]; rfl)
def sp_is_pair (K : PySem.W.Frag) : Sp := fun vs H Q _ => ∃ (x : V) (d : PyData), vs = [x] ∧ Dp K H x d ∧ ∀ H', Same H H' → Q (.bl (pairD d)) H'
theorem ok_is_pair (T : Txt K mg) : FnOk P w K mg base CX0 2 T.f_is_pair T.d_is_pair ["thing"] (sp_is_pair K) := by
  refine T.F_is_pair.ok sc_is_pair (fun vs H Q E h => ?_) (fun cdv A outer s H vs Q E hr h => ?_)
  · obtain ⟨x, d, rfl, _⟩ := h
    rfl
  · obtain ⟨x, d, rfl, hd, q⟩ := h
    refine ⟨_,
(pss_one (ps_ret (pe_and (pe_callB (call_isi) (by rfl) T.z_isinstance (by decide +kernel) (pa_cons (pv 0) (pa_cons (pe_bltn (v := .ty "tuple") (by rfl) T.z_tuple (by decide +kernel) rfl) pa_nil))) (pe_one (pe_cmpR op_eq (pe_callB (call_len_seq) (by rfl) T.z_len (by decide +kernel) (pa_cons (pv 0) pa_nil)) pe_int (nomark _))))))
, ?_⟩
    have q' : ∀ b, pairD d = b → Q (.bl b) H := fun b e => e ▸ q H (Same.refl H)
    refine ⟨x, rfl, x, .ty "tuple", _, _, _, rfl, .ty _, tyx hd, kitT d, _, rfl, ?_⟩
    cases hd with
    | tup h1 h2 =>
      refine iteT ?_
      refine ⟨_, rfl, _, _, rfl, .inr h1, rfl, ?_⟩
      exact q' _ (by show decide _ = decide _; rw [dpAll_len h2]; congr 1; simp)
    | non => exact iteF (q H (Same.refl H))
    | int n => exact iteF (q H (Same.refl H))
    | bl b => exact iteF (q H (Same.refl H))
    | str z => exact iteF (q H (Same.refl H))
    | lst _ _ => exact iteF (q H (Same.refl H))
def tupD (d : PyData) (lo hi : Int) : Bool := match d with
  | .tuple ds => decide (lo ≤ (ds.length : Int)) && decide ((ds.length : Int) ≤ hi)
  | _ => false
def sp_is_tuple_of (K : PySem.W.Frag) : Sp := fun vs H Q _ => ∃ (x : V) (d : PyData) (lo hi : Int), vs = [x, .int lo, .int hi] ∧ Dp K H x d ∧ ∀ H', Same H H' → Q (.bl (tupD d lo hi)) H'
theorem ok_is_tuple_of (T : Txt K mg) : FnOk P w K mg base CX0 2 T.f__is_tuple_of T.d__is_tuple_of ["thing", "least", "most"] (sp_is_tuple_of K) := by
  refine T.F__is_tuple_of.ok sc_is_tuple_of (fun vs H Q E h => ?_) (fun cdv A outer s H vs Q E hr h => ?_)
  · obtain ⟨x, d, lo, hi, rfl, _⟩ := h
    rfl
  · obtain ⟨x, d, lo, hi, rfl, hd, q⟩ := h
    refine ⟨_,
(pss_one (ps_ret (pe_and (pe_callB (call_isi) (by rfl) T.z_isinstance (by decide +kernel) (pa_cons (pv 0) (pa_cons (pe_bltn (v := .ty "tuple") (by rfl) T.z_tuple (by decide +kernel) rfl) pa_nil))) (pe_one (pe_chain op_le op_le (pv 1) (pe_callB (call_len_seq) (by rfl) T.z_len (by decide +kernel) (pa_cons (pv 0) pa_nil)) (pv 2))))))
, ?_⟩
    have q' : ∀ b, tupD d lo hi = b → Q (.bl b) H := fun b e => e ▸ q H (Same.refl H)
    refine ⟨x, rfl, x, .ty "tuple", _, _, _, rfl, .ty _, tyx hd, kitT d, _, rfl, ?_⟩
    cases hd with
    | @tup a xs ds h1 h2 =>
      refine iteT ?_
      refine ⟨_, rfl, _, rfl, _, _, rfl, .inr h1, lo, _, rfl, rfl, _, rfl, ?_⟩
      have hl : xs.length = ds.length := dpAll_len h2
      refine ite2 (fun e => ?_) (fun e => ?_)
      · refine ⟨_, rfl, _, hi, rfl, rfl, ?_⟩
        exact q' _ (by show (decide (lo ≤ (ds.length : Int)) && decide ((ds.length : Int) ≤ hi)) = _; rw [← hl, e]; rfl)
      · exact q' _ (by show (decide (lo ≤ (ds.length : Int)) && decide ((ds.length : Int) ≤ hi)) = _; rw [← hl]; rw [Bool.not_eq_true] at e; rw [e]; rfl)
    | non => exact iteF (q H (Same.refl H))
    | int n => exact iteF (q H (Same.refl H))
    | bl b => exact iteF (q H (Same.refl H))
    | str z => exact iteF (q H (Same.refl H))
    | lst _ _ => exact iteF (q H (Same.refl H))
def moveD : PyData → Bool
  | .tuple [a, b] => btw a (-32) 32 && btw b (-15) 15
  | _ => false
def sp_is_move (K : PySem.W.Frag) : Sp := fun vs H Q _ => ∃ (x : V) (d : PyData), vs = [x] ∧ Dp K H x d ∧ ∀ H', Same H H' → Q (.bl (moveD d)) H'
theorem ok_is_move (T : Txt K mg) : FnOk P w K mg base CX0 3 T.f__is_move T.d__is_move ["thing"] (sp_is_move K) := by
  refine T.F__is_move.ok sc_is_move (fun vs H Q E h => ?_) (fun cdv A outer s H vs Q E hr h => ?_)
  · obtain ⟨x, d, rfl, _⟩ := h
    rfl
  · obtain ⟨x, d, rfl, hd, q⟩ := h
    refine ⟨_,
(pss_one (ps_ret (pe_and (pe_call (ok_is_pair T) (hr.mono (by decide)) (by rfl) T.g_is_pair T.F_is_pair.kp T.b_is_pair .nil pass0 (pa_cons (pv 0) pa_nil)) (pe_and (pe_call (ok_is_between T) (hr.mono (by decide)) (by rfl) T.g_is_between T.F_is_between.kp T.b_is_between .nil pass0 (pa_cons (pe_ix ix_tup (pv 0) pe_int (fun _ _ => rfl)) (pa_cons (pe_un un_neg pe_int) (pa_cons pe_int pa_nil)))) (pe_one (pe_call (ok_is_between T) (hr.mono (by decide)) (by rfl) T.g_is_between T.F_is_between.kp T.b_is_between .nil pass0 (pa_cons (pe_ix ix_tup (pv 0) pe_int (fun _ _ => rfl)) (pa_cons (pe_un un_neg pe_int) (pa_cons pe_int pa_nil)))))))))
, ?_⟩
    have q' : ∀ b H', Same H H' → moveD d = b → Q (.bl b) H' := fun b H' s e => e ▸ q H' s
    refine ⟨x, rfl, x, d, rfl, hd, fun H1 s1 => ⟨_, rfl, ?_⟩⟩
    by_cases hp : pairD d = true
    · rw [hp]
      refine iteT ?_
      obtain ⟨da, db, rfl⟩ : ∃ da db, d = .tuple [da, db] := by
        cases d with
        | tuple ds =>
          match ds, hp with
          | [a, b], _ => exact ⟨a, b, rfl⟩
          | [], hp => cases hp
          | [a], hp => cases hp
          | a :: b :: c :: r, hp =>
            have := of_decide_eq_true (show decide (((a :: b :: c :: r).length : Int) = 2) = true from hp)
            simp at this
            omega
        | _ => cases hp
      obtain ⟨a, xs, rfl, ha, hds⟩ := dp_tup hd
      have ha1 := same_tup s1 ha
      obtain ⟨x0, e0, h0⟩ := dpAll_get' hds (i := 0) rfl
      obtain ⟨x1, e1, h1⟩ := dpAll_get' hds (i := 1) rfl
      refine ⟨_, rfl, a, xs, 0, x0, rfl, rfl, ha1, atI_nat (j := 0) e0, 32, rfl, x0, da, -32, 32, rfl, dp_same s1 _ _ h0, fun H2 s2 => ⟨_, rfl, ?_⟩⟩
      have ha2 := same_tup s2 ha1
      cases hb : btw da (-32) 32 with
      | false =>
        refine iteF ?_
        exact q' _ H2 (s1.trans s2) (by show (btw da (-32) 32 && btw db (-15) 15) = false; rw [hb]; rfl)
      | true =>
        refine iteT ?_
        refine ⟨_, rfl, a, xs, 1, x1, rfl, rfl, ha2, atI_nat (j := 1) e1, 15, rfl, x1, db, -15, 15, rfl, dp_same s2 _ _ (dp_same s1 _ _ h1), fun H3 s3 => ?_⟩
        exact q' _ H3 ((s1.trans s2).trans s3) (by show (btw da (-32) 32 && btw db (-15) 15) = _; rw [hb]; rfl)
    · rw [Bool.not_eq_true] at hp
      rw [hp]
      refine iteF ?_
      have e : moveD d = false := by
        unfold moveD
        split
        · cases hp
        · rfl
      exact q' _ H1 s1 e
def fadeD (d : PyData) : Bool := btw d 0 0 || btw d 2 99
def sp_is_fade (K : PySem.W.Frag) : Sp := fun vs H Q _ => ∃ (x : V) (d : PyData), vs = [x] ∧ Dp K H x d ∧ ∀ H', Same H H' → Q (.bl (fadeD d)) H'
theorem ok_is_fade (T : Txt K mg) : FnOk P w K mg base CX0 3 T.f__is_fade T.d__is_fade ["thing"] (sp_is_fade K) := by
  refine T.F__is_fade.ok sc_is_fade (fun vs H Q E h => ?_) (fun cdv A outer s H vs Q E hr h => ?_)
  · obtain ⟨x, d, rfl, _⟩ := h
    rfl
  · obtain ⟨x, d, rfl, hd, q⟩ := h
    refine ⟨_,
(pss_one (ps_ret (pe_or (pe_call (ok_is_between T) (hr.mono (by decide)) (by rfl) T.g_is_between T.F_is_between.kp T.b_is_between .nil pass0 (pa_cons (pv 0) (pa_cons pe_int (pa_cons pe_int pa_nil)))) (pe_one (pe_call (ok_is_between T) (hr.mono (by decide)) (by rfl) T.g_is_between T.F_is_between.kp T.b_is_between .nil pass0 (pa_cons (pv 0) (pa_cons pe_int (pa_cons pe_int pa_nil))))))))
, ?_⟩
    have q' : ∀ b H', Same H H' → fadeD d = b → Q (.bl b) H' := fun b H' s e => e ▸ q H' s
    refine ⟨x, rfl, x, d, 0, 0, rfl, hd, fun H1 s1 => ⟨_, rfl, ?_⟩⟩
    cases hb : btw d 0 0 with
    | true =>
      refine iteT ?_
      exact q' _ H1 s1 (by unfold fadeD; rw [hb]; rfl)
    | false =>
      refine iteF ?_
      refine ⟨x, rfl, x, d, 2, 99, rfl, dp_same s1 _ _ hd, fun H2 s2 => ?_⟩
      exact q' _ H2 (s1.trans s2) (by unfold fadeD; rw [hb]; rfl)
end
end My

namespace My
open PySem PySem.Spec PyProof.Rows L2
theorem for_enumT {K : PySem.W.Frag} {a : Addr} {xs : List V} {g : TG} {tb : L2.TS} {D : Ends} {σ : L2.St} {H : Hp} (Pv : Nat → L2.St → Hp → Prop) (h0 : Pv 0 σ H)
    (still : ∀ i σ H, i ≤ xs.length → Pv i σ H → SqT K H a xs)
    (turn : ∀ i x σ H T, xs[i]? = some x → Pv i σ H → H T = none → g (.ref T) σ (upd H T (.tup [.int (i : Nat), x])) fun σ2 H2 => tb { D with nx := Pv (i + 1), ct := Pv (i + 1), bk := D.nx } σ2 H2)
    (fin : ∀ σ H, Pv xs.length σ H → D.nx σ H) :
    ∃ W : Nat → Nat → L2.St → Hp → Prop, (∃ m, W 0 m σ H) ∧ ∀ i m σ H, W i m σ H →
      ((Itu K a).stop i H ∧ D.nx σ H) ∨ ((Itu K a).go i H ∧ ∃ N : L2.St → Hp → Prop, (∀ σ' H', N σ' H' → ∃ m', m' < m ∧ W (i + 1) m' σ' H') ∧ ∀ x H', (Itu K a).yld i H x H' → g x σ H' fun σ2 H2 => tb { D with nx := N, ct := N, bk := D.nx } σ2 H2) := by
  refine ⟨fun i m σ H => m + i = xs.length ∧ Pv i σ H, ⟨xs.length, by omega, h0⟩, ?_⟩
  rintro i m σ H ⟨hm, p⟩
  have q := still i σ H (by omega) p
  rcases Nat.lt_or_ge i xs.length with hlt | hge
  · refine Or.inr ⟨⟨xs, xs[i], q, List.getElem?_eq_getElem hlt⟩, Pv (i + 1), fun σ' H' p' => ⟨m - 1, by omega, by omega, p'⟩, ?_⟩
    rintro v H' ⟨T, x, rfl, hT, rfl, hx⟩
    exact turn i x σ H T (hx xs q) p hT
  · have e : i = xs.length := by omega
    exact Or.inl ⟨⟨xs, q, e.symm⟩, fin σ H (e ▸ p)⟩
theorem st_tail {t u : L2.TS} {D : Ends} {σ : L2.St} {H : Hp} (R : L2.St → Hp → Prop) (hR : ∀ σ H, R σ H → u D σ H)
    (h : (∀ σ H, R σ H → u D σ H) → t { D with nx := u D } σ H) : tSeq t u D σ H := h hR
/-- the place of the first thing of which p does not hold -/
def badAt (p : PyData → Bool) : Nat → List PyData → Option Nat
  | _, [] => none
  | i, d :: r => if p d = true then badAt p (i + 1) r else some i
theorem badAt_step {p : PyData → Bool} {ds : List PyData} {i : Nat} {d : PyData} (h : ds[i]? = some d) : badAt p i (ds.drop i) = if p d = true then badAt p (i + 1) (ds.drop (i + 1)) else some i := by
  have hi := (List.getElem?_eq_some_iff.mp h).1
  have e : ds.drop i = d :: ds.drop (i + 1) := by
    rw [List.drop_eq_getElem_cons hi]
    rw [List.getElem?_eq_getElem hi] at h
    rw [Option.some.inj h]
  rw [e]
  rfl
def noOr : Option Nat → PyData
  | none => .none
  | some i => .int i
def faultD (s : Str) : Option Nat → PyData
  | none => .none
  | some i => .tuple [.str s, .int i]
def rowF (s : Str) (lo hi : Int) (p : PyData → Bool) (d : PyData) : PyData := match d with
  | .tuple ds => if tupD (.tuple ds) lo hi = true then faultD s (badAt p 0 ds) else .tuple [.str s, .none]
  | _ => .tuple [.str s, .none]
def stepsF : PyData → PyData := rowF "steps" 1 16 (btw · 1 9999)
def movesF : PyData → PyData := rowF "moves" 2 16 moveD
theorem upd_tup {K : PySem.W.Frag} {H : Hp} {p : Addr} {xs : List V} : SqT K (upd H p (.tup xs)) p xs := .inl (.inl upd_same)
section
variable {P : Program} {w : World} {K : PySem.W.Frag} {mg : Str → Option Value} {base : Heap}
/-- hands back a thing that is f of the argument -/
def spF (K : PySem.W.Frag) (f : PyData → PyData) : Sp := fun vs H Q _ => ∃ (x : V) (d : PyData), vs = [x] ∧ Dp K H x d ∧ ∀ z H', Same H H' → Dp K H' z (f d) → Q z H'
theorem ok_fault_of_steps (T : Txt K mg) : FnOk P w K mg base CX0 3 T.f__fault_of_steps T.d__fault_of_steps ["steps"] (spF K stepsF) := by
  refine T.F__fault_of_steps.ok sc_fault_of_steps (fun vs H Q E h => ?_) (fun cdv A outer s H vs Q E hr h => ?_)
  · obtain ⟨x, d, rfl, _⟩ := h
    rfl
  · obtain ⟨x, d, rfl, hd, q⟩ := h
    have q' : ∀ z H' e, Same H H' → stepsF d = e → Dp K H' z e → Q z H' := fun z H' e s ee hz => q z H' s (ee ▸ hz)
    refine ⟨_,
(pss_cons (ps_if (pt_not (pt_val (pe_call (ok_is_tuple_of T) (hr.mono (by decide)) (by rfl) T.g__is_tuple_of T.F__is_tuple_of.kp T.b__is_tuple_of .nil pass0 (pa_cons (pv 0) (pa_cons pe_int (pa_cons pe_int pa_nil)))))) (pss_one (ps_ret (pe_tup (pa_cons pe_str (pa_cons pe_non pa_nil))))) pss_nil)
      (pss_cons (ps_for PassesOwn.never rfl (My.pi_enumT (by rfl) T.z_enumerate (pa_cons (pv 0) pa_nil)) (pg_tup (by rfl) (pgs_cons (pg_name (i := 1) sc_fault_of_steps.nd rfl (Or.inl rfl)) (pgs_cons (pg_name (i := 2) sc_fault_of_steps.nd rfl (Or.inl rfl)) pgs_nil))) (pss_one (ps_if (pt_not (pt_val (pe_call (ok_is_between T) (hr.mono (by decide)) (by rfl) T.g_is_between T.F_is_between.kp T.b_is_between .nil pass0 (pa_cons (pv 2) (pa_cons pe_int (pa_cons pe_int pa_nil)))))) (pss_one (ps_ret (pe_tup (pa_cons pe_str (pa_cons (pv 1) pa_nil))))) pss_nil)))
      (pss_one (ps_ret pe_non))))
, ?_⟩
    refine ⟨x, rfl, x, d, 1, 16, rfl, hd, fun H1 s1 => ⟨_, rfl, ?_⟩⟩
    cases hb : tupD d 1 16 with
    | false =>
      refine iteT ?_
      refine ⟨by decide, fun p hp => ?_⟩
      refine q' _ _ _ (s1.trans (same_new hp)) ?_ (.tup upd_tup (.cons (.str _) (.cons .non .nil)))
      unfold stepsF rowF
      split
      · rw [hb]; rfl
      · rfl
    | true =>
      refine iteF ?_
      obtain ⟨ds, rfl⟩ : ∃ ds, d = .tuple ds := by
        cases d with
        | tuple ds => exact ⟨ds, rfl⟩
        | _ => cases hb
      obtain ⟨a, xs, rfl, ha, hds⟩ := dp_tup hd
      have hF : stepsF (.tuple ds) = faultD "steps" (badAt (btw · 1 9999) 0 ds) := by
        show (if _ then _ else _) = _
        rw [if_pos hb]
      refine ⟨.ref a, rfl, a, xs, rfl, same_tup s1 ha, ?_⟩
      refine for_enumT (K := K) (a := a) (xs := xs) (fun i σ H' => ∃ y1 y2, σ = [some (.ref a), y1, y2] ∧ Same H H' ∧ badAt (btw · 1 9999) 0 ds = badAt (btw · 1 9999) i (ds.drop i)) ⟨none, none, rfl, s1, rfl⟩ ?_ ?_ ?_
      · rintro i σ H' _ ⟨_, _, _, s2, _⟩
        exact same_tup s2 ha
      · rintro i v σ H' p hi ⟨y1, y2, rfl, s2, hbad⟩ hp
        obtain ⟨dv, hdv, hv⟩ := dpAll_get hds hi
        rw [badAt_step hdv] at hbad
        have s3 := s2.trans (same_new (o := .tup [.int (i : Nat), v]) hp)
        refine ⟨p, _, rfl, upd_tup, rfl, _, _, rfl, _, _, rfl, rfl, ?_⟩
        refine ⟨_, rfl, v, dv, 1, 9999, rfl, dp_same s3 _ _ hv, fun H2 s4 => ⟨_, rfl, ?_⟩⟩
        cases hg : btw dv 1 9999 with
        | true =>
          refine iteF ?_
          rw [hg] at hbad
          exact ⟨_, _, rfl, s3.trans s4, hbad⟩
        | false =>
          refine iteT ?_
          rw [hg] at hbad
          refine ⟨_, rfl, by show 2 ≤ sizeLine; decide, fun p2 hp2 => ?_⟩
          refine q' _ _ _ ((s3.trans s4).trans (same_new hp2)) (hF.trans ?_) (.tup upd_tup (.cons (.str _) (.cons (.int _) .nil)))
          rw [hbad]
          rfl
      · rintro σ H' ⟨y1, y2, rfl, s2, hbad⟩
        refine q' _ _ _ s2 (hF.trans ?_) .non
        rw [hbad, dpAll_len hds, List.drop_length]
        rfl
theorem ok_fault_of_moves (T : Txt K mg) : FnOk P w K mg base CX0 4 T.f__fault_of_moves T.d__fault_of_moves ["moves"] (spF K movesF) := by
  refine T.F__fault_of_moves.ok sc_fault_of_moves (fun vs H Q E h => ?_) (fun cdv A outer s H vs Q E hr h => ?_)
  · obtain ⟨x, d, rfl, _⟩ := h
    rfl
  · obtain ⟨x, d, rfl, hd, q⟩ := h
    have q' : ∀ z H' e, Same H H' → movesF d = e → Dp K H' z e → Q z H' := fun z H' e s ee hz => q z H' s (ee ▸ hz)
    refine ⟨_,
(pss_cons (ps_if (pt_not (pt_val (pe_call (ok_is_tuple_of T) (hr.mono (by decide)) (by rfl) T.g__is_tuple_of T.F__is_tuple_of.kp T.b__is_tuple_of .nil pass0 (pa_cons (pv 0) (pa_cons pe_int (pa_cons pe_int pa_nil)))))) (pss_one (ps_ret (pe_tup (pa_cons pe_str (pa_cons pe_non pa_nil))))) pss_nil)
      (pss_cons (ps_for PassesOwn.never rfl (My.pi_enumT (by rfl) T.z_enumerate (pa_cons (pv 0) pa_nil)) (pg_tup (by rfl) (pgs_cons (pg_name (i := 1) sc_fault_of_moves.nd rfl (Or.inl rfl)) (pgs_cons (pg_name (i := 2) sc_fault_of_moves.nd rfl (Or.inl rfl)) pgs_nil))) (pss_one (ps_if (pt_not (pt_val (pe_call (ok_is_move T) (hr.mono (by decide)) (by rfl) T.g__is_move T.F__is_move.kp T.b__is_move .nil pass0 (pa_cons (pv 2) pa_nil)))) (pss_one (ps_ret (pe_tup (pa_cons pe_str (pa_cons (pv 1) pa_nil))))) pss_nil)))
      (pss_one (ps_ret pe_non))))
, ?_⟩
    refine ⟨x, rfl, x, d, 2, 16, rfl, hd, fun H1 s1 => ⟨_, rfl, ?_⟩⟩
    cases hb : tupD d 2 16 with
    | false =>
      refine iteT ?_
      refine ⟨by decide, fun p hp => ?_⟩
      refine q' _ _ _ (s1.trans (same_new hp)) ?_ (.tup upd_tup (.cons (.str _) (.cons .non .nil)))
      unfold movesF rowF
      split
      · rw [hb]; rfl
      · rfl
    | true =>
      refine iteF ?_
      obtain ⟨ds, rfl⟩ : ∃ ds, d = .tuple ds := by
        cases d with
        | tuple ds => exact ⟨ds, rfl⟩
        | _ => cases hb
      obtain ⟨a, xs, rfl, ha, hds⟩ := dp_tup hd
      have hF : movesF (.tuple ds) = faultD "moves" (badAt moveD 0 ds) := by
        show (if _ then _ else _) = _
        rw [if_pos hb]
      refine ⟨.ref a, rfl, a, xs, rfl, same_tup s1 ha, ?_⟩
      refine for_enumT (K := K) (a := a) (xs := xs) (fun i σ H' => ∃ y1 y2, σ = [some (.ref a), y1, y2] ∧ Same H H' ∧ badAt moveD 0 ds = badAt moveD i (ds.drop i)) ⟨none, none, rfl, s1, rfl⟩ ?_ ?_ ?_
      · rintro i σ H' _ ⟨_, _, _, s2, _⟩
        exact same_tup s2 ha
      · rintro i v σ H' p hi ⟨y1, y2, rfl, s2, hbad⟩ hp
        obtain ⟨dv, hdv, hv⟩ := dpAll_get hds hi
        rw [badAt_step hdv] at hbad
        have s3 := s2.trans (same_new (o := .tup [.int (i : Nat), v]) hp)
        refine ⟨p, _, rfl, upd_tup, rfl, _, _, rfl, _, _, rfl, rfl, ?_⟩
        refine ⟨_, rfl, v, dv, rfl, dp_same s3 _ _ hv, fun H2 s4 => ⟨_, rfl, ?_⟩⟩
        cases hg : moveD dv with
        | true =>
          refine iteF ?_
          rw [hg] at hbad
          exact ⟨_, _, rfl, s3.trans s4, hbad⟩
        | false =>
          refine iteT ?_
          rw [hg] at hbad
          refine ⟨_, rfl, by show 2 ≤ sizeLine; decide, fun p2 hp2 => ?_⟩
          refine q' _ _ _ ((s3.trans s4).trans (same_new hp2)) (hF.trans ?_) (.tup upd_tup (.cons (.str _) (.cons (.int _) .nil)))
          rw [hbad]
          rfl
      · rintro σ H' ⟨y1, y2, rfl, s2, hbad⟩
        refine q' _ _ _ s2 (hF.trans ?_) .non
        rw [hbad, dpAll_len hds, List.drop_length]
        rfl
/-- the five things -/
def codF (low high steps moves fade : PyData) : PyData :=
  if btw low (-32768) 0 = true then
    if btw high 0 32767 = true then
      match stepsF steps with
      | .none => (match movesF moves with
        | .none => if fadeD fade = true then .none else .tuple [.str "fade", .none]
        | e => e)
      | e => e
    else .tuple [.str "high", .none]
  else .tuple [.str "low", .none]
def firstF : PyData → PyData
  | .tuple [low, high, steps, moves, fade] => codF low high steps moves fade
  | _ => .tuple [.str "form", .none]
def isN : PyData → Bool
  | .none => true
  | _ => false
theorem dp_isN {K : PySem.W.Frag} {H : Hp} {z : V} {e : PyData} (h : Dp K H z e) : decide (z = V.non) = isN e := by
  cases h <;> rfl
theorem len5 {ds : List PyData} (h : ds.length = 5) : ∃ a b c d e, ds = [a, b, c, d, e] := by
  match ds, h with
  | [a, b, c, d, e], _ => exact ⟨a, b, c, d, e, rfl⟩
theorem dpAll5 {K : PySem.W.Frag} {H : Hp} {xs : List V} {a b c d e : PyData} (h : DpAll K H xs [a, b, c, d, e]) : ∃ x1 x2 x3 x4 x5, xs = [x1, x2, x3, x4, x5] ∧ Dp K H x1 a ∧ Dp K H x2 b ∧ Dp K H x3 c ∧ Dp K H x4 d ∧ Dp K H x5 e := by
  cases h with
  | cons h1 h => cases h with
    | cons h2 h => cases h with
      | cons h3 h => cases h with
        | cons h4 h => cases h with
          | cons h5 h => cases h with
            | nil => exact ⟨_, _, _, _, _, rfl, h1, h2, h3, h4, h5⟩
theorem ok_first_fault (T : Txt K mg) : FnOk P w K mg base CX0 5 T.f__first_fault T.d__first_fault ["thing"] (spF K firstF) := by
  refine T.F__first_fault.ok sc_first_fault (fun vs H Q E h => ?_) (fun cdv A outer s H vs Q E hr h => ?_)
  · obtain ⟨x, d, rfl, _⟩ := h
    rfl
  · obtain ⟨x, d, rfl, hd, q⟩ := h
    have q' : ∀ z H' e, Same H H' → firstF d = e → Dp K H' z e → Q z H' := fun z H' e s ee hz => q z H' s (ee ▸ hz)
    refine ⟨_,
(pss_cons (ps_if (PW.pt (pw_or (pt_not (pt_val (pe_callB (call_isi) (by rfl) T.z_isinstance (by decide +kernel) (pa_cons (pv 0) (pa_cons (pe_bltn (v := .ty "tuple") (by rfl) T.z_tuple (by decide +kernel) rfl) pa_nil))))) (pw_or1 (pt_cmpR op_ne (pe_callB (call_len_seq) (by rfl) T.z_len (by decide +kernel) (pa_cons (pv 0) pa_nil)) pe_int (nomark _))))) (pss_one (ps_ret (pe_tup (pa_cons pe_str (pa_cons pe_non pa_nil))))) pss_nil)
      (pss_cons (ps_asg (pv 0) (pg_tup (by rfl) (pgs_cons (pg_name (i := 1) sc_first_fault.nd rfl (Or.inl rfl)) (pgs_cons (pg_name (i := 2) sc_first_fault.nd rfl (Or.inl rfl)) (pgs_cons (pg_name (i := 3) sc_first_fault.nd rfl (Or.inl rfl)) (pgs_cons (pg_name (i := 4) sc_first_fault.nd rfl (Or.inl rfl)) (pgs_cons (pg_name (i := 5) sc_first_fault.nd rfl (Or.inl rfl)) pgs_nil)))))))
      (pss_cons (ps_if (pt_not (pt_val (pe_call (ok_is_between T) (hr.mono (by decide)) (by rfl) T.g_is_between T.F_is_between.kp T.b_is_between .nil pass0 (pa_cons (pv 1) (pa_cons (pe_un un_neg pe_int) (pa_cons pe_int pa_nil)))))) (pss_one (ps_ret (pe_tup (pa_cons pe_str (pa_cons pe_non pa_nil))))) pss_nil)
      (pss_cons (ps_if (pt_not (pt_val (pe_call (ok_is_between T) (hr.mono (by decide)) (by rfl) T.g_is_between T.F_is_between.kp T.b_is_between .nil pass0 (pa_cons (pv 2) (pa_cons pe_int (pa_cons pe_int pa_nil)))))) (pss_one (ps_ret (pe_tup (pa_cons pe_str (pa_cons pe_non pa_nil))))) pss_nil)
      (pss_cons (ps_set (i := 6) sc_first_fault.nd rfl (Or.inl rfl) (pe_call (ok_fault_of_steps T) (hr.mono (by decide)) (by rfl) T.g__fault_of_steps T.F__fault_of_steps.kp T.b__fault_of_steps .nil pass0 (pa_cons (pv 3) pa_nil)))
      (pss_cons (ps_if (pt_cmpR op_isN (pv 6) pe_non (nomark _)) (pss_one (ps_set (i := 6) sc_first_fault.nd rfl (Or.inl rfl) (pe_call (ok_fault_of_moves T) (hr.mono (by decide)) (by rfl) T.g__fault_of_moves T.F__fault_of_moves.kp T.b__fault_of_moves .nil pass0 (pa_cons (pv 4) pa_nil)))) pss_nil)
      (pss_cons (ps_if (PW.pt (pw_and (pt_cmpR op_isN (pv 6) pe_non (nomark _)) (pw_and1 (pt_not (pt_val (pe_call (ok_is_fade T) (hr.mono (by decide)) (by rfl) T.g__is_fade T.F__is_fade.kp T.b__is_fade .nil pass0 (pa_cons (pv 5) pa_nil))))))) (pss_one (ps_set (i := 6) sc_first_fault.nd rfl (Or.inl rfl) (pe_tup (pa_cons pe_str (pa_cons pe_non pa_nil))))) pss_nil)
      (pss_one (ps_ret (pv 6))))))))))
, ?_⟩
    refine ⟨x, rfl, x, .ty "tuple", _, _, _, rfl, .ty _, tyx hd, kitT d, _, rfl, ?_⟩
    -- no tuple of five things
    have bad : (∀ a b c e f, d ≠ .tuple [a, b, c, e, f]) → ∀ H1, Same H H1 → ([V.str "form", V.non].length ≤ sizeLine ∧ ∀ p, H1 p = none → Q (.ref p) (upd H1 p (.tup [V.str "form", V.non]))) := fun nd H1 s1 => by
      refine ⟨by decide, fun p hp => q' _ _ _ (s1.trans (same_new hp)) ?_ (.tup upd_tup (.cons (.str _) (.cons .non .nil)))⟩
      unfold firstF
      split
      · exact absurd rfl (nd _ _ _ _ _)
      · rfl
    cases hT : isT d with
    | false =>
      refine iteT ?_
      exact bad (fun a b c e f z => by rw [z] at hT; cases hT) H (Same.refl H)
    | true =>
      refine iteF ?_
      obtain ⟨ds, rfl⟩ : ∃ ds, d = .tuple ds := by
        cases d with
        | tuple ds => exact ⟨ds, rfl⟩
        | _ => cases hT
      obtain ⟨a, xs, rfl, ha, hds⟩ := dp_tup hd
      refine ⟨_, rfl, a, xs, rfl, .inr ha, rfl, _, rfl, ?_⟩
      have hl := dpAll_len hds
      by_cases h5 : ds.length = 5
      · have e5 : decide (V.int (xs.length : Int) = V.int 5) = true := by rw [hl, h5]; rfl
        rw [e5]
        refine iteF ?_
        obtain ⟨low, high, steps, moves, fade, rfl⟩ := len5 h5
        obtain ⟨x1, x2, x3, x4, x5, rfl, d1, d2, d3, d4, d5⟩ := dpAll5 hds
        have hF : firstF (.tuple [low, high, steps, moves, fade]) = codF low high steps moves fade := rfl
        rw [hF] at q'
        refine ⟨_, rfl, a, _, rfl, ha, rfl, _, _, rfl, _, _, rfl, _, _, rfl, _, _, rfl, _, _, rfl, rfl, ?_⟩
        refine ⟨_, rfl, 32768, rfl, x1, low, -32768, 0, rfl, d1, fun H1 s1 => ⟨_, rfl, ?_⟩⟩
        cases b1 : btw low (-32768) 0 with
        | false =>
          refine iteT ?_
          refine ⟨by decide, fun p hp => q' _ _ _ (s1.trans (same_new hp)) ?_ (.tup upd_tup (.cons (.str "low") (.cons .non .nil)))⟩
          unfold codF
          rw [b1]
          rfl
        | true =>
        refine iteF ?_
        refine ⟨_, rfl, x2, high, 0, 32767, rfl, dp_same s1 _ _ d2, fun H2 s2 => ⟨_, rfl, ?_⟩⟩
        have s12 := s1.trans s2
        cases b2 : btw high 0 32767 with
        | false =>
          refine iteT ?_
          refine ⟨by decide, fun p hp => q' _ _ _ (s12.trans (same_new hp)) ?_ (.tup upd_tup (.cons (.str "high") (.cons .non .nil)))⟩
          unfold codF
          rw [b1, b2]
          rfl
        | true =>
        refine iteF ?_
        refine ⟨_, rfl, x3, steps, rfl, dp_same s12 _ _ d3, fun z1 H3 s3 hz1 => ?_⟩
        have s13 := s12.trans s3
        dsimp only
        refine st_tail (fun σ H' => ∃ (z : V) (e : PyData), σ = [some (.ref a), some x1, some x2, some x3, some x4, some x5, some z] ∧ Same H H' ∧ Dp K H' z e ∧
          codF low high steps moves fade = (if isN e = true then (if fadeD fade = true then .none else .tuple [.str "fade", .none]) else e)) ?_ fun tail => ?_
        · rintro σ H4 ⟨z, e, rfl, s4, hz, he⟩
          refine ⟨_, rfl, rfl, _, rfl, ?_⟩
          show if decide (z = V.non) = true then _ else _
          rw [dp_isN hz]
          cases hn : isN e with
          | false =>
            refine iteF ?_
            refine iteF ?_
            refine ⟨_, rfl, q' _ _ _ s4 ?_ hz⟩
            rw [he, hn]
            rfl
          | true =>
            refine iteT ?_
            refine ⟨_, rfl, x5, fade, rfl, dp_same s4 _ _ d5, fun H5 s5 => ⟨_, rfl, ?_⟩⟩
            cases hf : fadeD fade with
            | true =>
              refine iteF ?_
              have en : e = .none := by
                cases e with
                | none => rfl
                | _ => cases hn
              refine ⟨_, rfl, q' _ _ _ (s4.trans s5) ?_ (dp_same s5 _ _ hz)⟩
              rw [he, hn, hf, en]
              rfl
            | false =>
              refine iteT ?_
              refine ⟨by decide, fun p hp => ⟨_, rfl, q' _ _ _ ((s4.trans s5).trans (same_new hp)) ?_ (.tup upd_tup (.cons (.str "fade") (.cons .non .nil)))⟩⟩
              rw [he, hn, hf]
              rfl
        refine ⟨_, rfl, rfl, _, rfl, ?_⟩
        show if decide (z1 = V.non) = true then _ else _
        rw [dp_isN hz1]
        have hC : codF low high steps moves fade = (match stepsF steps with
          | .none => (match movesF moves with
            | .none => if fadeD fade = true then .none else .tuple [.str "fade", .none]
            | e => e)
          | e => e) := by
          unfold codF
          rw [b1, b2]
          rfl
        cases hn : isN (stepsF steps) with
        | false =>
          refine iteF ?_
          refine tail _ _ ⟨z1, stepsF steps, rfl, s13, hz1, ?_⟩
          rw [hC, hn]
          cases e : stepsF steps with
          | none => rw [e] at hn; cases hn
          | _ => rfl
        | true =>
          refine iteT ?_
          refine ⟨_, rfl, x4, moves, rfl, dp_same s13 _ _ d4, fun z2 H4 s4 hz2 => ?_⟩
          refine tail _ _ ⟨z2, movesF moves, rfl, s13.trans s4, hz2, ?_⟩
          rw [hC]
          have en : stepsF steps = .none := by
            cases e : stepsF steps with
            | none => rfl
            | _ => rw [e] at hn; cases hn
          rw [en]
          cases movesF moves <;> rfl
      · have e5 : decide (V.int (xs.length : Int) = V.int 5) = false := by
          rw [hl]
          refine decide_eq_false fun z => h5 ?_
          have := V.int.inj z
          omega
        rw [e5]
        refine iteT ?_
        exact bad (fun a b c e f z => by cases z; exact h5 rfl) H (Same.refl H)
end
end My

namespace My
open PySem PySem.Spec PyProof.Rows L2
/-! ### coders, states, the move of a code: the mathematics -/
structure Cod where
  low : Int
  high : Int
  steps : List Int
  moves : List (Int × Int)
  fade : Int
def pairI (p : Int × Int) : PyData := .tuple [.int p.1, .int p.2]
def Cod.dat (C : Cod) : PyData := .tuple [.int C.low, .int C.high, .tuple (C.steps.map .int), .tuple (C.moves.map pairI), .int C.fade]
structure Cod.Ok (C : Cod) : Prop where
  l1 : -32768 ≤ C.low
  l2 : C.low ≤ 0
  h1 : 0 ≤ C.high
  h2 : C.high ≤ 32767
  s1 : 1 ≤ C.steps.length
  s2 : C.steps.length ≤ 16
  s3 : ∀ s ∈ C.steps, 1 ≤ s ∧ s ≤ 9999
  m1 : 2 ≤ C.moves.length
  m2 : C.moves.length ≤ 16
  m3 : ∀ p ∈ C.moves, (-32 ≤ p.1 ∧ p.1 ≤ 32) ∧ (-15 ≤ p.2 ∧ p.2 ≤ 15)
  f1 : C.fade = 0 ∨ (2 ≤ C.fade ∧ C.fade ≤ 99)
def rnd (n d : Int) : Int := if n < 0 then -((-n).fdiv d) else n.fdiv d
def lim (n lo hi : Int) : Int := if n < lo then lo else if hi < n then hi else n
def fdd (l f : Int) : Int := if f = 0 then l else l - rnd l f
def Cod.chg (C : Cod) (k p : Nat) : Int := rnd ((C.moves.getD k (0, 0)).1 * C.steps.getD p 0) 8
def Cod.led (C : Cod) (s : Int × Int) (k : Nat) : Int × Int :=
  (lim (fdd s.1 C.fade + C.chg k s.2.toNat) C.low C.high, lim (s.2 + (C.moves.getD k (0, 0)).2) 0 ((C.steps.length : Int) - 1))
def Cod.St (C : Cod) (s : Int × Int) : Prop := C.low ≤ s.1 ∧ s.1 ≤ C.high ∧ 0 ≤ s.2 ∧ s.2 < C.steps.length
theorem lim_in {n lo hi : Int} (h : lo ≤ hi) : lo ≤ lim n lo hi ∧ lim n lo hi ≤ hi := by
  unfold lim
  split
  · omega
  · split <;> omega
theorem Cod.led_St {C : Cod} (O : C.Ok) (s : Int × Int) (k : Nat) : C.St (C.led s k) := by
  have h1 := lim_in (n := fdd s.1 C.fade + C.chg k s.2.toNat) (lo := C.low) (hi := C.high) (by have := O.l2; have := O.h1; omega)
  have h2 := lim_in (n := s.2 + (C.moves.getD k (0, 0)).2) (lo := 0) (hi := (C.steps.length : Int) - 1) (by have := O.s1; omega)
  exact ⟨h1.1, h1.2, h2.1, by show lim _ _ _ < _; omega⟩
theorem badAt_none {p : PyData → Bool} : ∀ {ds : List PyData} {i : Nat}, (∀ d ∈ ds, p d = true) → badAt p i ds = none
  | [], _, _ => rfl
  | d :: r, i, h => by
    show (if p d = true then badAt p (i + 1) r else some i) = none
    rw [if_pos (h d List.mem_cons_self)]
    exact badAt_none fun e he => h e (List.mem_cons_of_mem _ he)
theorem btw_in {n lo hi : Int} (h1 : lo ≤ n) (h2 : n ≤ hi) : btw (.int n) lo hi = true := by
  show (decide _ && decide _) = true
  rw [decide_eq_true h1, decide_eq_true h2]
  rfl
theorem tup_in {ds : List PyData} {lo hi : Int} (h1 : lo ≤ (ds.length : Int)) (h2 : (ds.length : Int) ≤ hi) : tupD (.tuple ds) lo hi = true := by
  show (decide _ && decide _) = true
  rw [decide_eq_true h1, decide_eq_true h2]
  rfl
theorem Cod.Ok.first {C : Cod} (O : C.Ok) : firstF C.dat = .none := by
  have e1 : stepsF (.tuple (C.steps.map .int)) = .none := by
    show (if _ then _ else _) = _
    rw [if_pos (tup_in (by rw [List.length_map]; have := O.s1; omega) (by rw [List.length_map]; have := O.s2; omega)), badAt_none]
    · rfl
    · intro d hd
      obtain ⟨s, hs, rfl⟩ := List.mem_map.mp hd
      exact btw_in (O.s3 s hs).1 (O.s3 s hs).2
  have e2 : movesF (.tuple (C.moves.map pairI)) = .none := by
    show (if _ then _ else _) = _
    rw [if_pos (tup_in (by rw [List.length_map]; have := O.m1; omega) (by rw [List.length_map]; have := O.m2; omega)), badAt_none]
    · rfl
    · intro d hd
      obtain ⟨p, hp, rfl⟩ := List.mem_map.mp hd
      obtain ⟨⟨a1, a2⟩, b1, b2⟩ := O.m3 p hp
      show (btw (.int p.1) (-32) 32 && btw (.int p.2) (-15) 15) = true
      rw [btw_in a1 a2, btw_in b1 b2]
      rfl
  have e3 : fadeD (.int C.fade) = true := by
    unfold fadeD
    rcases O.f1 with h | ⟨h1, h2⟩
    · rw [btw_in (by omega) (by omega)]
      rfl
    · rw [btw_in h1 h2, Bool.or_true]
  show codF (.int C.low) (.int C.high) (.tuple (C.steps.map .int)) (.tuple (C.moves.map pairI)) (.int C.fade) = .none
  unfold codF
  rw [if_pos (btw_in O.l1 O.l2), if_pos (btw_in O.h1 O.h2), e1, e2, if_pos e3]
theorem dpAll_ints {K : PySem.W.Frag} {H : Hp} : ∀ {ns : List Int} {xs : List V}, DpAll K H xs (ns.map .int) → xs = ns.map V.int
  | [], _, h => by cases h; rfl
  | n :: r, _, h => by
    cases h with
    | cons a b =>
      cases a
      rw [dpAll_ints b]
      rfl
theorem dp_int {K : PySem.W.Frag} {H : Hp} {v : V} {n : Int} (h : Dp K H v (.int n)) : v = .int n := by
  cases h
  rfl
theorem dpAll2 {K : PySem.W.Frag} {H : Hp} {xs : List V} {a b : PyData} (h : DpAll K H xs [a, b]) : ∃ x1 x2, xs = [x1, x2] ∧ Dp K H x1 a ∧ Dp K H x2 b := by
  cases h with
  | cons h1 h => cases h with
    | cons h2 h => cases h with
      | nil => exact ⟨_, _, rfl, h1, h2⟩
theorem dp_pair {K : PySem.W.Frag} {H : Hp} {v : V} {p : Int × Int} (h : Dp K H v (pairI p)) : ∃ a, v = .ref a ∧ SqT K H a [.int p.1, .int p.2] := by
  obtain ⟨a, xs, rfl, ha, hd⟩ := dp_tup h
  obtain ⟨x1, x2, rfl, h1, h2⟩ := dpAll2 hd
  rw [dp_int h1, dp_int h2] at ha
  exact ⟨a, rfl, ha⟩
/-- a coder's parts -/
theorem cod_at {K : PySem.W.Frag} {H : Hp} {c : V} {C : Cod} (h : Dp K H c C.dat) : ∃ (a s m : Addr) (ms : List V), c = .ref a ∧ SqT K H a [.int C.low, .int C.high, .ref s, .ref m, .int C.fade] ∧
    SqT K H s (C.steps.map V.int) ∧ SqT K H m ms ∧ DpAll K H ms (C.moves.map pairI) := by
  obtain ⟨a, xs, rfl, ha, hd⟩ := dp_tup h
  obtain ⟨x1, x2, x3, x4, x5, rfl, h1, h2, h3, h4, h5⟩ := dpAll5 hd
  obtain ⟨s, ys, rfl, hs, hsd⟩ := dp_tup h3
  obtain ⟨m, ms, rfl, hm, hmd⟩ := dp_tup h4
  rw [dp_int h1, dp_int h2, dp_int h5] at ha
  rw [dpAll_ints hsd] at hs
  exact ⟨a, s, m, ms, rfl, ha, hs, hm, hmd⟩
theorem move_at {K : PySem.W.Frag} {H : Hp} {C : Cod} {ms : List V} (h : DpAll K H ms (C.moves.map pairI)) {k : Nat} (hk : k < C.moves.length) :
    ∃ q, ms[k]? = some (.ref q) ∧ SqT K H q [.int (C.moves.getD k (0, 0)).1, .int (C.moves.getD k (0, 0)).2] := by
  have e : (C.moves.map pairI)[k]? = some (pairI (C.moves.getD k (0, 0))) := by
    rw [List.getElem?_map, List.getElem?_eq_getElem hk, List.getD_eq_getElem?_getD, List.getElem?_eq_getElem hk]
    rfl
  obtain ⟨x, hx, hd⟩ := dpAll_get' h e
  obtain ⟨q, rfl, hq⟩ := dp_pair hd
  exact ⟨q, hx, hq⟩
theorem step_at {C : Cod} {p : Nat} (hp : p < C.steps.length) : (C.steps.map V.int)[p]? = some (.int (C.steps.getD p 0)) := by
  rw [List.getElem?_map, List.getElem?_eq_getElem hp, List.getD_eq_getElem?_getD, List.getElem?_eq_getElem hp]
  rfl
/-! ### the forms of a fault; what has none is a coder -/
theorem btw_out {d : PyData} {lo hi : Int} (h : btw d lo hi = true) : ∃ n, d = .int n ∧ lo ≤ n ∧ n ≤ hi := by
  cases d with
  | int n =>
    obtain ⟨a, b⟩ := Bool.and_eq_true_iff.mp (show (decide (lo ≤ n) && decide (n ≤ hi)) = true from h)
    exact ⟨n, rfl, of_decide_eq_true a, of_decide_eq_true b⟩
  | _ => cases h
theorem badAt_lt {p : PyData → Bool} : ∀ {ds : List PyData} {i k : Nat}, badAt p i ds = some k → k < i + ds.length
  | [], _, _, h => by cases h
  | d :: r, i, k, h => by
    have h : (if p d = true then badAt p (i + 1) r else some i) = some k := h
    rw [List.length_cons]
    by_cases e : p d = true
    · rw [if_pos e] at h
      have := badAt_lt h
      omega
    · rw [if_neg e] at h
      cases h
      omega
theorem badAt_all {p : PyData → Bool} : ∀ {ds : List PyData} {i : Nat}, badAt p i ds = none → ∀ d ∈ ds, p d = true
  | [], _, _, _, hd => by cases hd
  | d :: r, i, h, e, he => by
    have h : (if p d = true then badAt p (i + 1) r else some i) = none := h
    by_cases q : p d = true
    · rw [if_pos q] at h
      rcases List.mem_cons.mp he with z | z
      · rw [z]; exact q
      · exact badAt_all h e z
    · rw [if_neg q] at h
      cases h
/-- a fault's form: nothing, or a short word and nothing or a small number -/
def Flt (e : PyData) : Prop := e = .none ∨ ∃ s : Str, s ∈ (["form", "low", "high", "steps", "moves", "fade"] : List Str) ∧ (e = .tuple [.str s, .none] ∨ ∃ k : Nat, k ≤ 16 ∧ e = .tuple [.str s, .int (k : Int)])
theorem rowF_flt {s : Str} {lo hi : Int} {p : PyData → Bool} (hs : s ∈ (["form", "low", "high", "steps", "moves", "fade"] : List Str)) (hh : hi ≤ 16) (d : PyData) : Flt (rowF s lo hi p d) := by
  cases d with
  | tuple ds =>
    show Flt (if tupD (.tuple ds) lo hi = true then faultD s (badAt p 0 ds) else .tuple [.str s, .none])
    by_cases h : tupD (.tuple ds) lo hi = true
    · rw [if_pos h]
      cases e : badAt p 0 ds with
      | none => exact .inl rfl
      | some k =>
        have h1 := badAt_lt e
        have h2 := of_decide_eq_true (Bool.and_eq_true_iff.mp (show (decide (lo ≤ (ds.length : Int)) && decide ((ds.length : Int) ≤ hi)) = true from h)).2
        exact .inr ⟨s, hs, .inr ⟨k, by omega, rfl⟩⟩
    · rw [if_neg h]
      exact .inr ⟨s, hs, .inl rfl⟩
  | _ => exact .inr ⟨s, hs, .inl rfl⟩
theorem stepsF_flt (d : PyData) : Flt (stepsF d) := rowF_flt (by decide +kernel) (by decide) d
theorem movesF_flt (d : PyData) : Flt (movesF d) := rowF_flt (by decide +kernel) (by decide) d
theorem codF_flt (a b c d e : PyData) : Flt (codF a b c d e) := by
  unfold codF
  by_cases h1 : btw a (-32768) 0 = true
  · rw [if_pos h1]
    by_cases h2 : btw b 0 32767 = true
    · rw [if_pos h2]
      rcases stepsF_flt c with z | ⟨s, hs, z | ⟨k, hk, z⟩⟩
      · rw [z]
        rcases movesF_flt d with y | ⟨s, hs, y | ⟨k, hk, y⟩⟩
        · rw [y]
          dsimp only
          by_cases h3 : fadeD e = true
          · rw [if_pos h3]; exact .inl rfl
          · rw [if_neg h3]; exact .inr ⟨"fade", by decide +kernel, .inl rfl⟩
        · rw [y]; exact .inr ⟨s, hs, .inl rfl⟩
        · rw [y]; exact .inr ⟨s, hs, .inr ⟨k, hk, rfl⟩⟩
      · rw [z]; exact .inr ⟨s, hs, .inl rfl⟩
      · rw [z]; exact .inr ⟨s, hs, .inr ⟨k, hk, rfl⟩⟩
    · rw [if_neg h2]; exact .inr ⟨"high", by decide +kernel, .inl rfl⟩
  · rw [if_neg h1]; exact .inr ⟨"low", by decide +kernel, .inl rfl⟩
theorem firstF_flt (d : PyData) : Flt (firstF d) := by
  unfold firstF
  split
  · exact codF_flt ..
  · exact .inr ⟨"form", by decide +kernel, .inl rfl⟩
theorem rowF_none {s : Str} {lo hi : Int} {p : PyData → Bool} {d : PyData} (h : rowF s lo hi p d = .none) : ∃ ds, d = .tuple ds ∧ lo ≤ (ds.length : Int) ∧ (ds.length : Int) ≤ hi ∧ ∀ e ∈ ds, p e = true := by
  cases d with
  | tuple ds =>
    have h : (if tupD (.tuple ds) lo hi = true then faultD s (badAt p 0 ds) else .tuple [.str s, .none]) = .none := h
    by_cases q : tupD (.tuple ds) lo hi = true
    · rw [if_pos q] at h
      obtain ⟨a, b⟩ := Bool.and_eq_true_iff.mp (show (decide (lo ≤ (ds.length : Int)) && decide ((ds.length : Int) ≤ hi)) = true from q)
      cases e : badAt p 0 ds with
      | none => exact ⟨ds, rfl, of_decide_eq_true a, of_decide_eq_true b, badAt_all e⟩
      | some k => rw [e] at h; cases h
    · rw [if_neg q] at h
      cases h
  | _ => cases h
theorem ints_of {lo hi : Int} : ∀ {ds : List PyData}, (∀ e ∈ ds, btw e lo hi = true) → ∃ ns : List Int, ds = ns.map .int ∧ ∀ n ∈ ns, lo ≤ n ∧ n ≤ hi
  | [], _ => ⟨[], rfl, fun _ h => by cases h⟩
  | d :: r, h => by
    obtain ⟨n, rfl, h1, h2⟩ := btw_out (h d List.mem_cons_self)
    obtain ⟨ns, rfl, hn⟩ := ints_of fun e he => h e (List.mem_cons_of_mem _ he)
    refine ⟨n :: ns, rfl, fun k hk => ?_⟩
    rcases List.mem_cons.mp hk with z | z
    · rw [z]; exact ⟨h1, h2⟩
    · exact hn k z
theorem pairs_of : ∀ {ds : List PyData}, (∀ e ∈ ds, moveD e = true) → ∃ ps : List (Int × Int), ds = ps.map pairI ∧ ∀ p ∈ ps, (-32 ≤ p.1 ∧ p.1 ≤ 32) ∧ (-15 ≤ p.2 ∧ p.2 ≤ 15)
  | [], _ => ⟨[], rfl, fun _ h => by cases h⟩
  | d :: r, h => by
    obtain ⟨ps, rfl, hn⟩ := pairs_of fun e he => h e (List.mem_cons_of_mem _ he)
    have hd := h d List.mem_cons_self
    obtain ⟨a, b, rfl, h1, h2⟩ : ∃ a b, d = .tuple [a, b] ∧ btw a (-32) 32 = true ∧ btw b (-15) 15 = true := by
      unfold moveD at hd
      split at hd
      · exact ⟨_, _, rfl, Bool.and_eq_true_iff.mp hd⟩
      · cases hd
    obtain ⟨x, rfl, x1, x2⟩ := btw_out h1
    obtain ⟨y, rfl, y1, y2⟩ := btw_out h2
    refine ⟨(x, y) :: ps, rfl, fun k hk => ?_⟩
    rcases List.mem_cons.mp hk with z | z
    · rw [z]; exact ⟨⟨x1, x2⟩, y1, y2⟩
    · exact hn k z
/-- what has no fault is a coder -/
theorem firstF_cod {d : PyData} (h : firstF d = .none) : ∃ C : Cod, C.Ok ∧ d = C.dat := by
  unfold firstF at h
  split at h
  · rename_i a b c e f
    unfold codF at h
    by_cases h1 : btw a (-32768) 0 = true
    · rw [if_pos h1] at h
      by_cases h2 : btw b 0 32767 = true
      · rw [if_pos h2] at h
        cases hs : stepsF c with
        | none =>
          rw [hs] at h
          dsimp only at h
          cases hm : movesF e with
          | none =>
            rw [hm] at h
            dsimp only at h
            by_cases h3 : fadeD f = true
            · obtain ⟨low, rfl, a1, a2⟩ := btw_out h1
              obtain ⟨high, rfl, b1, b2⟩ := btw_out h2
              obtain ⟨ds, rfl, d1, d2, d3⟩ := rowF_none hs
              obtain ⟨ns, rfl, hn⟩ := ints_of d3
              obtain ⟨es, rfl, e1, e2, e3⟩ := rowF_none hm
              obtain ⟨ps, rfl, hp⟩ := pairs_of e3
              rw [List.length_map] at d1 d2 e1 e2
              obtain ⟨n, rfl, f1⟩ : ∃ n, f = .int n ∧ (n = 0 ∨ (2 ≤ n ∧ n ≤ 99)) := by
                unfold fadeD at h3
                rcases Bool.or_eq_true_iff.mp h3 with z | z
                · obtain ⟨n, rfl, z1, z2⟩ := btw_out z
                  exact ⟨n, rfl, .inl (by omega)⟩
                · obtain ⟨n, rfl, z1, z2⟩ := btw_out z
                  exact ⟨n, rfl, .inr ⟨z1, z2⟩⟩
              exact ⟨⟨low, high, ns, ps, n⟩, ⟨a1, a2, b1, b2, by show 1 ≤ ns.length; omega, by show ns.length ≤ 16; omega, hn, by show 2 ≤ ps.length; omega, by show ps.length ≤ 16; omega, hp, f1⟩, rfl⟩
            · rw [if_neg h3] at h
              cases h
          | _ => rw [hm] at h; cases h
        | _ => rw [hs] at h; cases h
      · rw [if_neg h2] at h
        cases h
    · rw [if_neg h1] at h
      cases h
  · cases h
def stateD (C : Cod) : PyData → Bool
  | .tuple [a, b] => btw a C.low C.high && btw b 0 ((C.steps.length : Int) - 1)
  | _ => false
theorem pairD_two {d : PyData} (h : pairD d = true) : ∃ a b, d = .tuple [a, b] := by
  cases d with
  | tuple ds =>
    match ds, h with
    | [a, b], _ => exact ⟨a, b, rfl⟩
    | [], hp => cases hp
    | [a], hp => cases hp
    | a :: b :: c :: r, hp =>
      have := of_decide_eq_true (show decide (((a :: b :: c :: r).length : Int) = 2) = true from hp)
      simp at this
      omega
  | _ => cases h
section
variable {P : Program} {w : World} {K : PySem.W.Frag} {mg : Str → Option Value} {base : Heap}
/-- two fields stored one behind the other -/
def sp_init2 (C : Addr) (f1 f2 : Str) : Sp := fun vs H Q _ => ∃ (a : Addr) (x y : V), vs = [.ref a, x, y] ∧ H a = some (exo a C none) ∧
  ∀ dx, H dx = none → dx ≠ a → Q .non (upd (upd (upd H dx (exd dx [(f1, x)])) a (exo a C (some dx))) dx (exd dx [(f2, y), (f1, x)]))
theorem oki_BadCoder (T : Txt K mg) : FnOk P w K mg base CX0 2 T.fi_BadCoder T.di_BadCoder ["self", "part", "number"] (sp_init2 T.C_BadCoder "part" "number") := by
  refine T.Fi_BadCoder.ok sci_BadCoder (fun vs H Q E h => ?_) (fun cdv A outer s H vs Q E hr h => ?_)
  · obtain ⟨a, x, y, rfl, _⟩ := h
    rfl
  · obtain ⟨a, x, y, rfl, ha, q⟩ := h
    refine ⟨_, pss_cons (ps_ost (pv 0) (pv 1)) (pss_one (ps_ost (pv 0) (pv 2))), ?_⟩
    refine ⟨_, rfl, _, rfl, a, T.C_BadCoder, rfl, T.o_BadCoder, T.n_BadCoder_part, .inl ⟨ha, fun dx hdx ne => ?_⟩⟩
    refine ⟨_, rfl, _, rfl, a, T.C_BadCoder, rfl, T.o_BadCoder, T.n_BadCoder_number, .inr ⟨dx, _, upd_same, (upd_ne ne).trans upd_same, by show 1 ≤ 900; decide, q dx hdx ne⟩⟩
theorem made2 {H : Hp} {a d : Addr} {o1 o2 o3 o4 o5 : HO} (h : H a = none) (n : d ≠ a) : upd (del (upd (upd (upd (upd H a o1) d o2) a o3) d o4) a) d o5 = upd H d o5 := by
  funext b
  show (if b = d then some o5 else if b = a then none else if b = d then some o4 else if b = a then some o3 else if b = d then some o2 else if b = a then some o1 else H b) = if b = d then some o5 else H b
  by_cases e : b = d
  · rw [if_pos e, if_pos e]
  · rw [if_neg e, if_neg e]
    by_cases e2 : b = a
    · rw [if_pos e2, e2, h, if_neg (fun z => e (e2.trans z))]
    · rw [if_neg e2, if_neg e, if_neg e2, if_neg e, if_neg e2]
/-- a refusal with two fields: a new dict, all else stands -/
def TwoE (C : Addr) (f g : Str) (H : Hp) (E : XK) (x y : V) : Prop := ∀ d H', Same H H' → H' d = some (.xd [(g, y), (f, x)]) → E (.ref C) (some d) H'
theorem TwoE.same {C : Addr} {f g : Str} {H H' : Hp} {E : XK} {x y : V} (s : Same H H') (h : TwoE C f g H E x y) : TwoE C f g H' E x y := fun d H'' s' hd => h d H'' (s.trans s') hd
theorem twoE_mk {C : Addr} {f g : Str} {H : Hp} {E : XK} {x y : V} (h : TwoE C f g H E x y) {a d : Addr} {o1 o2 o3 o4 : HO} (ha : H a = none) (hd : upd H a o1 d = none) (n : d ≠ a) :
    E (.ref C) (some d) (upd (del (upd (upd (upd (upd H a o1) d o2) a o3) d o4) a) d (.xd [(g, y), (f, x)])) := by
  rw [made2 ha n]
  have h0 : H d = none := (upd_ne n).symm.trans hd
  exact h d _ (same_new h0) upd_same
/-- the two fields of a fault -/
inductive FltV : PyData → V → V → Prop
  | non (s : Str) : FltV (.tuple [.str s, .none]) (.str s) .non
  | int (s : Str) (k : Int) : FltV (.tuple [.str s, .int k]) (.str s) (.int k)
def sp_need_coder (K : PySem.W.Frag) (B : Addr) : Sp := fun vs H Q E => ∃ (x : V) (d : PyData), vs = [x] ∧ Dp K H x d ∧ (firstF d = .none → ∀ H', Same H H' → Q x H') ∧
  (∀ y z, FltV (firstF d) y z → TwoE B "part" "number" H E y z)
theorem ok_need_coder (T : Txt K mg) : FnOk P w K mg base (L2.CX P w) 6 T.f_need_coder T.d_need_coder ["thing"] (sp_need_coder K T.C_BadCoder) := by
  refine T.F_need_coder.okX sc_need_coder (fun vs H Q E h => ?_) (fun cdv A outer s H vs Q E hr h => ?_)
  · obtain ⟨x, d, rfl, _⟩ := h
    rfl
  · obtain ⟨x, d, rfl, hd, q1, q2⟩ := h
    refine ⟨_,
(pss_cons (ps_set (i := 1) sc_need_coder.nd rfl (Or.inl rfl) (pe_call (ok_first_fault T) (hr.mono (by decide)) (by rfl) T.g__first_fault T.F__first_fault.kp T.b__first_fault .nil pass0 (pa_cons (pv 0) pa_nil)))
      (pss_cons (ps_if (pt_cmpR op_notN (pv 1) pe_non (nomark _)) (pss_one (ps_raise rfl (takes_of rfl rfl rfl rfl) (pmk_oex T.o_BadCoder T.i_BadCoder T.t_BadCoder (oki_BadCoder T) (hr.mono (by decide)) T.bi_BadCoder .nil pass0 (by rfl) T.g_BadCoder (pa_cons (pe_ix ix_tup (pv 1) pe_int (fun _ _ => rfl)) (pa_cons (pe_ix ix_tup (pv 1) pe_int (fun _ _ => rfl)) pa_nil))))) pss_nil)
      (pss_one (ps_ret (pv 0)))))
, ?_⟩
    refine ⟨x, rfl, x, d, rfl, hd, fun z H1 s1 hz => ?_⟩
    refine ⟨_, rfl, rfl, _, rfl, ?_⟩
    show if (!decide (z = V.non)) = true then _ else _
    rw [dp_isN hz]
    rcases firstF_flt d with e | ⟨s, _, e | ⟨k, _, e⟩⟩
    · rw [e]
      refine iteF ?_
      exact ⟨x, rfl, q1 e H1 s1⟩
    · rw [e] at hz q2 ⊢
      refine iteT ?_
      obtain ⟨a, xs, rfl, ha, hds⟩ := dp_tup hz
      obtain ⟨x1, x2, rfl, h1, h2⟩ := dpAll2 hds
      cases h1
      cases h2
      exact ⟨_, rfl, a, _, 0, _, rfl, rfl, ha, atI_nat (j := 0) rfl, _, rfl, a, _, 1, _, rfl, rfl, ha, atI_nat (j := 1) rfl, by show 2 ≤ 1000; decide, fun b hb => ⟨b, _, _, rfl, upd_same, fun dd hd n =>
        ⟨rfl, dd, _, (upd_ne n.symm).trans upd_same, upd_same, (upd_ne n).symm.trans hd, twoE_mk ((q2 _ _ (.non s)).same s1) hb hd n⟩⟩⟩
    · rw [e] at hz q2 ⊢
      refine iteT ?_
      obtain ⟨a, xs, rfl, ha, hds⟩ := dp_tup hz
      obtain ⟨x1, x2, rfl, h1, h2⟩ := dpAll2 hds
      cases h1
      cases h2
      exact ⟨_, rfl, a, _, 0, _, rfl, rfl, ha, atI_nat (j := 0) rfl, _, rfl, a, _, 1, _, rfl, rfl, ha, atI_nat (j := 1) rfl, by show 2 ≤ 1000; decide, fun b hb => ⟨b, _, _, rfl, upd_same, fun dd hd n =>
        ⟨rfl, dd, _, (upd_ne n.symm).trans upd_same, upd_same, (upd_ne n).symm.trans hd, twoE_mk ((q2 _ _ (.int s _)).same s1) hb hd n⟩⟩⟩
end
end My

namespace My
open PySem PySem.Spec PyProof.Rows L2
def Cod.run (C : Cod) (s : Int × Int) : List Nat → Int × Int
  | [] => s
  | k :: r => Cod.run C (C.led s k) r
def Cod.lev (C : Cod) (s : Int × Int) : List Nat → List Int
  | [] => []
  | k :: r => (C.led s k).1 :: Cod.lev C (C.led s k) r
theorem run_snoc {C : Cod} : ∀ (r : List Nat) (s : Int × Int) (k : Nat), C.run s (r ++ [k]) = C.led (C.run s r) k
  | [], _, _ => rfl
  | j :: r, s, k => run_snoc r (C.led s j) k
theorem run_app {C : Cod} : ∀ (r : List Nat) (s : Int × Int) (q : List Nat), C.run s (r ++ q) = C.run (C.run s r) q
  | [], _, _ => rfl
  | j :: r, s, q => run_app r (C.led s j) q
theorem lev_snoc {C : Cod} : ∀ (r : List Nat) (s : Int × Int) (k : Nat), C.lev s (r ++ [k]) = C.lev s r ++ [(C.led (C.run s r) k).1]
  | [], _, _ => rfl
  | j :: r, s, k => by
    show (C.led s j).1 :: C.lev (C.led s j) (r ++ [k]) = _
    rw [lev_snoc r (C.led s j) k]
    rfl
theorem lev_app {C : Cod} : ∀ (r : List Nat) (s : Int × Int) (q : List Nat), C.lev s (r ++ q) = C.lev s r ++ C.lev (C.run s r) q
  | [], _, _ => rfl
  | j :: r, s, q => by
    show (C.led s j).1 :: C.lev (C.led s j) (r ++ q) = _
    rw [lev_app r (C.led s j) q]
    rfl
theorem lev_len {C : Cod} : ∀ (r : List Nat) (s : Int × Int), (C.lev s r).length = r.length
  | [], _ => rfl
  | j :: r, s => congrArg (· + 1) (lev_len r (C.led s j))
theorem run_St {C : Cod} (O : C.Ok) : ∀ (r : List Nat) {s : Int × Int}, C.St s → C.St (C.run s r)
  | [], _, h => h
  | k :: r, s, _ => run_St O r (C.led_St O s k)
theorem lev_in {C : Cod} (O : C.Ok) : ∀ (r : List Nat) (s : Int × Int), ∀ z ∈ C.lev s r, C.low ≤ z ∧ z ≤ C.high
  | [], _, _, h => by cases h
  | k :: r, s, z, h => by
    rcases List.mem_cons.mp h with e | e
    · rw [e]
      have := C.led_St O s k
      exact ⟨this.1, this.2.1⟩
    · exact lev_in O r _ z e
def rowI (r : List Nat) : PyData := .tuple (r.map fun k : Nat => PyData.int (k : Int))
def rowV (r : List Nat) : List V := r.map fun k : Nat => V.int (k : Int)
structure Cod.Row (C : Cod) (r : List Nat) : Prop where
  len : r.length ≤ 2000
  lt : ∀ k ∈ r, k < C.moves.length
theorem Cod.St.ok {C : Cod} {s : Int × Int} (h : C.St s) : stateD C (pairI s) = true := by
  show (btw (.int s.1) _ _ && btw (.int s.2) _ _) = true
  rw [btw_in h.1 h.2.1, btw_in h.2.2.1 (by have := h.2.2.2; omega)]
  rfl
theorem dpAll_row {K : PySem.W.Frag} {H : Hp} : ∀ {r : List Nat} {xs : List V}, DpAll K H xs (r.map fun k : Nat => PyData.int (k : Int)) → xs = rowV r
  | [], _, h => by cases h; rfl
  | n :: r, _, h => by
    cases h with
    | cons a b =>
      cases a
      rw [dpAll_row b]
      rfl
theorem row_at {K : PySem.W.Frag} {H : Hp} {v : V} {r : List Nat} (h : Dp K H v (rowI r)) : ∃ a, v = .ref a ∧ SqT K H a (rowV r) := by
  obtain ⟨a, xs, rfl, ha, hd⟩ := dp_tup h
  rw [dpAll_row hd] at ha
  exact ⟨a, rfl, ha⟩
theorem rowV_get {r : List Nat} {i : Nat} {x : V} (h : (rowV r)[i]? = some x) : ∃ k, r[i]? = some k ∧ x = .int (k : Int) := by
  unfold rowV at h
  rw [List.getElem?_map] at h
  cases e : r[i]? with
  | none => rw [e] at h; cases h
  | some k => rw [e] at h; exact ⟨k, rfl, (Option.some.inj h).symm⟩
theorem take_snoc {α : Type} {r : List α} {i : Nat} {k : α} (h : r[i]? = some k) : r.take (i + 1) = r.take i ++ [k] := by
  rw [List.take_add_one, h]
  rfl
/-- a tuple stands while a list is changed -/
theorem sqt_set {K : PySem.W.Frag} {H : Hp} {p a : Addr} {ys xs : List V} {o : HO} (hp : H p = some (.lst ys)) (h : SqT K H a xs) : SqT K (upd H p o) a xs := by
  rcases h with (h | ⟨u, h⟩) | h
  · exact .inl (.inl ((upd_ne (ne_of h hp nofun)).trans h))
  · exact .inl (.inr ⟨u, (upd_ne (ne_of h hp nofun)).trans h⟩)
  · exact .inr h
theorem dp_mkpair {K : PySem.W.Frag} {H : Hp} {a : Addr} {s : Int × Int} (h : SqT K H a [.int s.1, .int s.2]) : Dp K H (.ref a) (pairI s) := .tup h (.cons (.int _) (.cons (.int _) .nil))
theorem dp_tints {K : PySem.W.Frag} {H : Hp} {a : Addr} {ns : List Int} (h : SqT K H a (ns.map V.int)) : Dp K H (.ref a) (.tuple (ns.map .int)) := by
  refine .tup h ?_
  clear h
  induction ns with
  | nil => exact .nil
  | cons n r ih => exact .cons (.int n) ih
end My

/-! words and rows of a text -/
namespace My
open PySem PySem.Spec PyProof.Rows L2
def strV (ws : List Str) : List V := ws.map V.str
theorem map_get {α β : Type} {f : α → β} {xs : List α} {i : Nat} {y : β} (h : (xs.map f)[i]? = some y) : ∃ x, xs[i]? = some x ∧ y = f x := by
  rw [List.getElem?_map] at h
  cases e : xs[i]? with
  | none => rw [e] at h; cases h
  | some x => rw [e] at h; exact ⟨x, rfl, (Option.some.inj h).symm⟩
theorem get_map {α β : Type} {f : α → β} {xs : List α} {i : Nat} {x : α} (h : xs[i]? = some x) : (xs.map f)[i]? = some (f x) := by
  rw [List.getElem?_map, h]
  rfl
theorem get_mem {α : Type} {xs : List α} {i : Nat} {x : α} (h : xs[i]? = some x) : x ∈ xs := List.mem_of_getElem? h
theorem strs_take {ws : List Str} {i : Nat} {w : Str} (h : ws[i]? = some w) : strV (ws.take (i + 1)) = strV (ws.take i) ++ [V.str w] := by
  have e : ws.take (i + 1) = ws.take i ++ [w] := by
    rw [List.take_succ, h]
    rfl
  rw [e]
  exact List.map_append
/-! ### lengths -/
def lenS (ws : List Str) : Nat := (ws.map fun w => w.length + 1).sum
theorem lenS_app (a b : List Str) : lenS (a ++ b) = lenS a + lenS b := by
  unfold lenS
  rw [List.map_append, List.sum_append]
theorem lenS_take (ws : List Str) (k : Nat) : lenS (ws.take k) ≤ lenS ws := by
  have e : lenS (ws.take k) + lenS (ws.drop k) = lenS ws := by rw [← lenS_app, List.take_append_drop]
  omega
theorem lenS_drop (ws : List Str) (k : Nat) : lenS (ws.drop k) ≤ lenS ws := by
  have e : lenS (ws.take k) + lenS (ws.drop k) = lenS ws := by rw [← lenS_app, List.take_append_drop]
  omega
theorem lenS_cons (w : Str) (r : List Str) : lenS (w :: r) = w.length + 1 + lenS r := by
  unfold lenS
  rw [List.map_cons, List.sum_cons]
theorem lenS_count : ∀ ws : List Str, ws.length ≤ lenS ws
  | [] => Nat.zero_le _
  | w :: r => by
    have := lenS_count r
    rw [lenS_cons, List.length_cons]
    omega
theorem lenS_mem : ∀ {ws : List Str} {w : Str}, w ∈ ws → w.length ≤ lenS ws
  | v :: r, w, h => by
    rw [lenS_cons]
    rcases List.mem_cons.mp h with e | h
    · rw [e]; omega
    · have := lenS_mem h
      omega
theorem lenS_sum : ∀ ws : List Str, (ws.map (·.length)).sum + ws.length = lenS ws
  | [] => rfl
  | w :: r => by
    have := lenS_sum r
    rw [lenS_cons, List.map_cons, List.sum_cons, List.length_cons]
    omega
theorem spl_sum : ∀ (l acc : List Nat), ((TL.spl [32] 0 acc l).map fun p => p.length + 1).sum = acc.length + l.length + 1
  | [], acc => by
    rw [TL.spl_nil]
    show acc.length + 1 + 0 = _
    rfl
  | c :: r, acc => by
    cases h : TL.pre [32] (c :: r) with
    | true =>
      rw [TL.spl_hit h]
      have := spl_sum r []
      show acc.length + 1 + ((TL.spl [32] 0 [] r).map fun p => p.length + 1).sum = _
      rw [this, List.length_cons, List.length_nil]
      omega
    | false =>
      rw [TL.spl_miss h, spl_sum r (acc ++ [c]), List.length_append, List.length_cons, List.length_cons, List.length_nil]
      omega
theorem split_tl (x : Str) : (Txt.split x " ").map TL.tl = TL.spl [32] 0 [] (TL.tl x) := by
  have h := TL.split_spl x " " (by rw [tl_blank]; exact List.cons_ne_nil _ _) (TL.kind_ok (by decide +kernel))
  rw [tl_blank] at h
  exact h
theorem split_sum (x : Str) : lenS (Txt.split x " ") = x.length + 1 := by
  have h := spl_sum (TL.tl x) []
  rw [← split_tl, List.map_map] at h
  unfold lenS
  have e : ((fun p : List Nat => p.length + 1) ∘ TL.tl) = fun w : Str => w.length + 1 := by
    funext w
    show (TL.tl w).length + 1 = w.length + 1
    rw [TL.len_tl]
  rw [e, List.length_nil, ← TL.len_tl] at h
  rw [h]
  omega
theorem split_ne (x : Str) : Txt.split x " " ≠ [] := fun e => by
  have h := split_sum x
  rw [e] at h
  have : lenS [] = 0 := rfl
  omega
theorem split_count (x : Str) : (Txt.split x " ").length ≤ x.length + 1 := by
  have := lenS_count (Txt.split x " ")
  rw [split_sum] at this
  exact this
theorem joinL_sum : ∀ ps : List (List Nat), (TL.joinL [32] ps).length ≤ (ps.map fun p => p.length + 1).sum
  | [] => Nat.zero_le _
  | [p] => by
    show p.length ≤ p.length + 1 + 0
    omega
  | p :: q :: r => by
    have := joinL_sum (q :: r)
    show (p ++ ([32] ++ TL.joinL [32] (q :: r))).length ≤ p.length + 1 + ((q :: r).map fun p => p.length + 1).sum
    rw [List.length_append, List.length_append]
    have e : ([32] : List Nat).length = 1 := rfl
    omega
theorem row_sum (ws : List Str) : (rowT ws).length ≤ lenS ws := by
  rw [TL.len_tl, tl_row]
  have h := joinL_sum (ws.map TL.tl)
  rw [List.map_map] at h
  have e : ((fun p : List Nat => p.length + 1) ∘ TL.tl) = fun w : Str => w.length + 1 := by
    funext w
    show (TL.tl w).length + 1 = w.length + 1
    rw [TL.len_tl]
  rw [e] at h
  exact h
/-! ### codes -/
theorem flat_strs (ws : List Str) : (strV ws).all flatV = true := by
  rw [List.all_eq_true]
  intro v hv
  obtain ⟨x, _, rfl⟩ := List.mem_map.mp hv
  rfl
theorem eqV_str {a b : Str} : eqV (.str a) (.str b) = true ↔ a = b := by
  show (a == b) = true ↔ a = b
  exact beq_iff_eq
theorem in_iff {x : Str} {ws : List Str} : inV (.str x) (strV ws) = true ↔ x ∈ ws := by
  unfold inV
  rw [List.any_eq_true]
  constructor
  · rintro ⟨v, hv, e⟩
    obtain ⟨y, hy, rfl⟩ := List.mem_map.mp hv
    rw [← eqV_str.mp e]
    exact hy
  · intro h
    exact ⟨_, List.mem_map.mpr ⟨x, h, rfl⟩, eqV_str.mpr rfl⟩
end My

/-! what is wrong in a coder's text: the mathematics -/
namespace My
open PySem PySem.Spec PyProof.Rows L2
def digB (l : List Nat) : Bool := l.all fun c => decide (48 ≤ c) && decide (c ≤ 57)
theorem digB_iff {l : List Nat} : digB l = true ↔ NumText.AllDigits l := by
  unfold digB
  rw [List.all_eq_true]
  constructor
  · intro h c hc
    obtain ⟨a, b⟩ := Bool.and_eq_true_iff.mp (h c hc)
    exact ⟨of_decide_eq_true a, of_decide_eq_true b⟩
  · intro h c hc
    have := h c hc
    rw [decide_eq_true this.1, decide_eq_true this.2]
    rfl
/-- the signs behind a `-` -/
def behind (l : List Nat) : List Nat := match l with
  | c :: r => if c = 45 then r else c :: r
  | [] => []
/-- a number by its form -/
def numB (w : Str) : Bool := decide (1 ≤ (behind (TL.tl w)).length) && decide ((behind (TL.tl w)).length ≤ 5) && digB (behind (TL.tl w)) && (decide (TL.tl w = [48]) || decide ((behind (TL.tl w)).head? ≠ some 48))
theorem tl_zero {w : Str} : TL.tl w = [48] ↔ w = "0" := by
  constructor
  · intro h
    exact TL.ext_tl (by rw [h]; decide +kernel)
  · rintro rfl
    decide +kernel
theorem numB_form {w : Str} : numB w = true ↔ (1 ≤ (behind (TL.tl w)).length ∧ (behind (TL.tl w)).length ≤ 5) ∧ NumText.AllDigits (behind (TL.tl w)) ∧ (w = "0" ∨ (behind (TL.tl w)).head? ≠ some 48) := by
  unfold numB
  rw [Bool.and_eq_true_iff, Bool.and_eq_true_iff, Bool.and_eq_true_iff, Bool.or_eq_true_iff, digB_iff, decide_eq_true_eq, decide_eq_true_eq, decide_eq_true_eq, decide_eq_true_eq, tl_zero]
  constructor
  · rintro ⟨⟨⟨a, b⟩, c⟩, d⟩
    exact ⟨⟨a, b⟩, c, d⟩
  · rintro ⟨⟨a, b⟩, c, d⟩
    exact ⟨⟨⟨a, b⟩, c⟩, d⟩
theorem numB_iff {w : Str} : numB w = true ↔ IsNum w := by
  rw [numB_form]
  cases e : TL.tl w with
  | nil =>
    rw [num_pos (fun ds h => by rw [e] at h; cases h), e]
    rfl
  | cons c r =>
    by_cases hc : c = 45
    · subst hc
      rw [num_neg e]
      show ((1 ≤ r.length ∧ r.length ≤ 5) ∧ NumText.AllDigits r ∧ (w = "0" ∨ r.head? ≠ some 48)) ↔ _
      constructor
      · rintro ⟨a, b, h | h⟩
        · rw [h] at e
          rw [show TL.tl "0" = [48] by decide +kernel] at e
          cases e
        · exact ⟨a, b, h⟩
      · rintro ⟨a, b, h⟩
        exact ⟨a, b, .inr h⟩
    · have hb : behind (c :: r) = c :: r := if_neg hc
      rw [num_pos (fun ds h => by rw [e] at h; injection h with h _; exact hc h), e, hb]
def numOf (w : Str) : Int := (intText? w).getD 0
theorem num_at {w : Str} (h : numB w = true) : ∃ n : Int, n.natAbs < 100000 ∧ w = sI n ∧ numOf w = n ∧ intText? w = some n := by
  obtain ⟨n, hn, rfl⟩ := numB_iff.mp h
  refine ⟨n, hn, rfl, ?_, sI_int hn⟩
  unfold numOf
  rw [sI_int hn]
  rfl
/-! ### a row of words -/
def badB (most : Nat) (ws : List Str) (i : Nat) : Bool := decide (1 ≤ i) && (decide (most < i) || !numB (ws.getD i Str.empty))
def rowFault (name : Str) (least most : Nat) (ws : List Str) : Option Nat :=
  if inV (.str "") (strV ws) = true then some 0
  else if V.str (ws.getD 0 Str.empty) = V.str name then
    match (List.range ws.length).find? (badB most ws) with
    | some i => some (i + 1)
    | none => if ws.length ≤ least then some (ws.length + 1) else none
  else some 1
theorem getD_of {ws : List Str} {i : Nat} {w : Str} (h : ws[i]? = some w) : ws.getD i Str.empty = w := by
  rw [List.getD_eq_getElem?_getD, h]
  rfl
theorem find_at {p : Nat → Bool} {n i : Nat} (hi : i < n) (h : p i = true) (hb : ∀ j, j < i → p j = false) : (List.range n).find? p = some i := by
  rw [List.find?_range_eq_some]
  refine ⟨h, List.mem_range.mpr hi, fun j hj => ?_⟩
  rw [hb j hj]
  rfl
theorem find_no {p : Nat → Bool} {n : Nat} (h : ∀ j, j < n → p j = false) : (List.range n).find? p = none := by
  rw [List.find?_range_eq_none]
  intro j hj
  rw [h j hj]
  rfl
theorem no_find {p : Nat → Bool} {n : Nat} (h : (List.range n).find? p = none) : ∀ j, j < n → p j = false := by
  rw [List.find?_range_eq_none] at h
  intro j hj
  have := h j hj
  cases e : p j with
  | false => rfl
  | true => rw [e] at this; cases this
theorem find_congr {α : Type} {p q : α → Bool} : ∀ {l : List α}, (∀ x ∈ l, p x = q x) → l.find? p = l.find? q
  | [], _ => rfl
  | x :: r, h => by
    rw [List.find?_cons, List.find?_cons, h x List.mem_cons_self, find_congr fun y hy => h y (List.mem_cons_of_mem _ hy)]
section
variable {name : Str} {least most : Nat} {ws : List Str}
theorem fault_0 (h : inV (.str "") (strV ws) = true) : rowFault name least most ws = some 0 := if_pos h
theorem fault_1 (h : inV (.str "") (strV ws) = false) (h1 : V.str (ws.getD 0 Str.empty) ≠ V.str name) : rowFault name least most ws = some 1 := by
  unfold rowFault
  rw [if_neg (by rw [h]; decide), if_neg h1]
theorem fault_n (h : inV (.str "") (strV ws) = false) (h1 : V.str (ws.getD 0 Str.empty) = V.str name) {i : Nat} (hi : i < ws.length) (hb : badB most ws i = true) (ha : ∀ j, j < i → badB most ws j = false) :
    rowFault name least most ws = some (i + 1) := by
  unfold rowFault
  rw [if_neg (by rw [h]; decide), if_pos h1, find_at hi hb ha]
theorem fault_l (h : inV (.str "") (strV ws) = false) (h1 : V.str (ws.getD 0 Str.empty) = V.str name) (ha : ∀ j, j < ws.length → badB most ws j = false) :
    rowFault name least most ws = if ws.length ≤ least then some (ws.length + 1) else none := by
  unfold rowFault
  rw [if_neg (by rw [h]; decide), if_pos h1, find_no ha]
theorem fault_most {m' : Nat} (h : ws.length ≤ most) (h' : ws.length ≤ m') : rowFault name least most ws = rowFault name least m' ws := by
  unfold rowFault
  rw [find_congr (p := badB most ws) (q := badB m' ws) fun i hi => ?_]
  have := List.mem_range.mp hi
  unfold badB
  rw [decide_eq_false (show ¬ most < i by omega), decide_eq_false (show ¬ m' < i by omega)]
theorem fault_none (h : rowFault name least most ws = none) : least < ws.length ∧ ∀ i w, 1 ≤ i → ws[i]? = some w → i ≤ most ∧ numB w = true := by
  unfold rowFault at h
  split at h
  · cases h
  split at h
  case isFalse => cases h
  cases e : (List.range ws.length).find? (badB most ws) with
  | some i => rw [e] at h; cases h
  | none =>
    rw [e] at h
    replace h : (if ws.length ≤ least then some (ws.length + 1) else none) = none := h
    split at h
    · cases h
    · refine ⟨by omega, fun i w h1 hw => ?_⟩
      have := no_find e i (List.getElem?_eq_some_iff.mp hw).1
      unfold badB at this
      rw [decide_eq_true h1, Bool.true_and, getD_of hw] at this
      obtain ⟨a, b⟩ := Bool.or_eq_false_iff.mp this
      refine ⟨by have := of_decide_eq_false a; omega, ?_⟩
      cases hn : numB w with
      | true => rfl
      | false => rw [hn] at b; cases b
end
/-! ### the rows of a text -/
def rowName (k : Nat) : Str := if k = 0 then "levels" else if k = 1 then "steps" else "move"
def rowLeast (k : Nat) : Nat := if k = 0 then 3 else if k = 1 then 1 else 2
def rowMost (k : Nat) : Nat := if k = 0 then 3 else if k = 1 then 100000 else 2
def rowFk (k : Nat) (ws : List Str) : Option Nat := rowFault (rowName k) (rowLeast k) (rowMost k) ws
def rowsOf (t : Str) : List (List Str) := (Txt.split t "\n").map fun r => Txt.split r " "
def txtF (rows : List (List Str)) : Option (Int × Int) := match (List.range rows.length).find? (fun k => (rowFk k (rows.getD k [])).isSome) with
  | some k => some ((k : Int) + 1, (((rowFk k (rows.getD k [])).getD 0 : Nat) : Int))
  | none => if rows.length < 2 then some (2, 0) else none
theorem getR_of {rows : List (List Str)} {i : Nat} {w : List Str} (h : rows[i]? = some w) : rows.getD i [] = w := by
  rw [List.getD_eq_getElem?_getD, h]
  rfl
theorem txtF_bad {rows : List (List Str)} {k f : Nat} {ws : List Str} (h : rows[k]? = some ws) (hf : rowFk k ws = some f) (ha : ∀ j ws, j < k → rows[j]? = some ws → rowFk j ws = none) : txtF rows = some ((k : Int) + 1, (f : Int)) := by
  have hk := (List.getElem?_eq_some_iff.mp h).1
  unfold txtF
  rw [find_at (i := k) hk (by rw [getR_of h, hf]; rfl) fun j hj => ?_]
  · show some (_, (((rowFk k (rows.getD k [])).getD 0 : Nat) : Int)) = _
    rw [getR_of h, hf]
    rfl
  · have e : rows[j]? = some (rows[j]'(by omega)) := List.getElem?_eq_getElem (by omega)
    rw [getR_of e, ha j _ hj e]
    rfl
theorem txtF_ok {rows : List (List Str)} (ha : ∀ j ws, rows[j]? = some ws → rowFk j ws = none) : txtF rows = if rows.length < 2 then some (2, 0) else none := by
  unfold txtF
  rw [find_no fun j hj => ?_]
  have e : rows[j]? = some (rows[j]'(by omega)) := List.getElem?_eq_getElem (by omega)
  rw [getR_of e, ha j _ e]
  rfl
theorem txtF_none {rows : List (List Str)} (h : txtF rows = none) : 2 ≤ rows.length ∧ ∀ j ws, rows[j]? = some ws → rowFk j ws = none := by
  unfold txtF at h
  cases e : (List.range rows.length).find? (fun k => (rowFk k (rows.getD k [])).isSome) with
  | some k => rw [e] at h; cases h
  | none =>
    rw [e] at h
    replace h : (if rows.length < 2 then some ((2 : Int), (0 : Int)) else none) = none := h
    split at h
    · cases h
    · refine ⟨by omega, fun j ws hw => ?_⟩
      have := no_find e j (List.getElem?_eq_some_iff.mp hw).1
      simp only [getR_of hw] at this
      cases hn : rowFk j ws with
      | none => rfl
      | some f => rw [hn] at this; cases this
def numsOf (ws : List Str) : List Int := (ws.drop 1).map numOf
def codOf (rows : List (List Str)) : Cod :=
  ⟨(numsOf (rows.getD 0 [])).getD 0 0, (numsOf (rows.getD 0 [])).getD 1 0, numsOf (rows.getD 1 []), (rows.drop 2).map fun ws => ((numsOf ws).getD 0 0, (numsOf ws).getD 1 0), (numsOf (rows.getD 0 [])).getD 2 0⟩
/-- a right row: its words behind the first are numbers -/
theorem row_good {k : Nat} {ws : List Str} (h : rowFk k ws = none) : (∀ i w, 1 ≤ i → ws[i]? = some w → numB w = true) ∧ ws.length = (numsOf ws).length + 1 ∧ (∀ n ∈ numsOf ws, n.natAbs < 100000) ∧
    (k = 0 → (numsOf ws).length = 3) ∧ (k = 1 → 1 ≤ (numsOf ws).length) ∧ (2 ≤ k → (numsOf ws).length = 2) := by
  obtain ⟨h1, h2⟩ := fault_none h
  have hl : (numsOf ws).length = ws.length - 1 := by
    unfold numsOf
    rw [List.length_map, List.length_drop]
  have hm : ∀ m : Nat, rowMost k = m → ws.length ≤ m + 1 := fun m hm => by
    by_cases h0 : ws.length ≤ 1
    · omega
    · have e : ws[ws.length - 1]? = some (ws[ws.length - 1]'(by omega)) := List.getElem?_eq_getElem (by omega)
      have := (h2 _ _ (by omega) e).1
      omega
  refine ⟨fun i w hi hw => (h2 i w hi hw).2, by omega, fun n hn => ?_, fun hk => ?_, fun hk => ?_, fun hk => ?_⟩
  · obtain ⟨w, hw, rfl⟩ := List.mem_map.mp hn
    obtain ⟨i, hi, rfl⟩ := List.getElem_of_mem hw
    rw [List.length_drop] at hi
    have e : ws[1 + i]? = some (ws[1 + i]'(by omega)) := List.getElem?_eq_getElem (by omega)
    obtain ⟨n, hn, _, h3, _⟩ := num_at (h2 _ _ (by omega) e).2
    have e2 : (ws.drop 1)[i] = ws[1 + i]'(by omega) := List.getElem_drop ..
    rw [e2, h3]
    exact hn
  · subst hk
    have := hm 3 rfl
    have h1 : 3 < ws.length := h1
    omega
  · subst hk
    have h1 : 1 < ws.length := h1
    omega
  · have e1 : rowLeast k = 2 := by unfold rowLeast; rw [if_neg (by omega), if_neg (by omega)]
    have e2 : rowMost k = 2 := by unfold rowMost; rw [if_neg (by omega), if_neg (by omega)]
    have := hm 2 e2
    rw [e1] at h1
    omega
theorem len3 {α : Type} {xs : List α} (h : xs.length = 3) : ∃ a b c, xs = [a, b, c] := by
  match xs, h with
  | [a, b, c], _ => exact ⟨a, b, c, rfl⟩
theorem len2 {α : Type} {xs : List α} (h : xs.length = 2) : ∃ a b, xs = [a, b] := by
  match xs, h with
  | [a, b], _ => exact ⟨a, b, rfl⟩
/-- how reading ends -/
def outF : PyData → PyData
  | .tuple [p, n] => .tuple [.str "coder", p, n]
  | _ => .none
def outC : Option Str → PyData
  | none => .tuple [.str "row", .int 0, .int 0]
  | some t => match txtF (rowsOf t) with
    | some (r, w) => .tuple [.str "row", .int r, .int w]
    | none => if isN (firstF (codOf (rowsOf t)).dat) = true then .list [(codOf (rowsOf t)).dat] else outF (firstF (codOf (rowsOf t)).dat)
theorem outC_row {t : Str} {r w : Int} (h : txtF (rowsOf t) = some (r, w)) : outC (some t) = .tuple [.str "row", .int r, .int w] := by
  show (match txtF (rowsOf t) with
    | some (r, w) => PyData.tuple [.str "row", .int r, .int w]
    | none => if isN (firstF (codOf (rowsOf t)).dat) = true then .list [(codOf (rowsOf t)).dat] else outF (firstF (codOf (rowsOf t)).dat)) = _
  rw [h]
theorem outC_cod {t : Str} (h : txtF (rowsOf t) = none) : outC (some t) = if isN (firstF (codOf (rowsOf t)).dat) = true then .list [(codOf (rowsOf t)).dat] else outF (firstF (codOf (rowsOf t)).dat) := by
  show (match txtF (rowsOf t) with
    | some (r, w) => PyData.tuple [.str "row", .int r, .int w]
    | none => if isN (firstF (codOf (rowsOf t)).dat) = true then .list [(codOf (rowsOf t)).dat] else outF (firstF (codOf (rowsOf t)).dat)) = _
  rw [h]
end My

namespace My
open PySem PySem.Spec PyProof.Rows L2
theorem dg_l {H : Hp} {m c l : Addr} {k : Int} (h : H m = some (.dK (dd c l k))) : DGet H m (.str "left") (some (.ref l)) := by
  have e := DGet.k (k := .inr "left") h
  rw [dd_l] at e
  exact e
theorem dg_c {H : Hp} {m c l : Addr} {k : Int} (h : H m = some (.dK (dd c l k))) : DGet H m (.str "cells") (some (.ref c)) := by
  have e := DGet.k (k := .inr "cells") h
  rw [dd_c] at e
  exact e
theorem dg_a {H : Hp} {m c l : Addr} {k : Int} (h : H m = some (.dK (dd c l k))) : DGet H m (.str "at") (some (.int k)) := by
  have e := DGet.k (k := .inr "at") h
  rw [dd_a] at e
  exact e
theorem dp_l {H : Hp} {m c l p : Addr} {k : Int} (h : H m = some (.dK (dd c l k))) : DPut H m (.str "left") (.ref p) (upd H m (.dK (dd c p k))) := by
  have e := DPut.k (k := .inr "left") (v := .ref p) h (by show 3 < sizeLine; decide)
  rw [dd_pl] at e
  exact e
theorem dp_a {H : Hp} {m c l : Addr} {k z : Int} (h : H m = some (.dK (dd c l k))) : DPut H m (.str "at") (.int z) (upd H m (.dK (dd c l z))) := by
  have e := DPut.k (k := .inr "at") (v := .int z) h (by show 3 < sizeLine; decide)
  rw [dd_pa] at e
  exact e
def pis (ns : List Int) : List PyData := ns.map .int
theorem dp_ints {K : PySem.W.Frag} {H : Hp} : ∀ ns : List Int, DpAll K H (ns.map V.int) (pis ns)
  | [] => .nil
  | n :: r => .cons (.int n) (dp_ints r)
theorem lay_ints : ∀ ns : List Int, PyData.canLayAll0 (pis ns) = true ∧ PyData.depthAll (pis ns) = 0
  | [] => ⟨rfl, rfl⟩
  | n :: r => by
    obtain ⟨h1, h2⟩ := lay_ints r
    exact ⟨by show ((PyData.int n).canLay0 && PyData.canLayAll0 (pis r)) = true; rw [h1]; rfl, by show max 0 (PyData.depthAll (pis r)) = 0; rw [h2]; rfl⟩
theorem shaped_ints (ns : List Int) : SeqAt.shaped (.list (pis ns)) = true := by
  obtain ⟨h1, h2⟩ := lay_ints ns
  show (PyData.canLayAll0 (pis ns) && decide (PyData.depthAll (pis ns) + 1 ≤ 64)) = true
  rw [h1, h2]
  rfl
theorem eqv_nil (ns : List Int) : PyData.eqv (.list (pis ns)) (.list []) = ns.isEmpty := by
  cases ns <;> rfl
section
variable {P : Program} {w : World} {K : PySem.W.Frag} {mg : Str → Option Value} {base : Heap}
theorem ixN_nat {n j : Nat} (h : j < n) : ixN n (j : Int) = some j := by
  unfold ixN
  rw [if_pos (by omega), if_pos (by omega)]
  simp
def sp_law_next : Sp := fun vs H Q _ => ∃ (m c l : Addr) (n : Nat) (many : Int), vs = [.ref m, .int many] ∧ 0 < many ∧ many < 2 ^ 40 ∧ Dr H m c l (n + 1) ∧
  ∀ (r : Int) (l' : Addr) (H' : Hp), 0 ≤ r → r < many → Kp m l H l' H' → Dr H' m c l' n → Q (.int r) H'
theorem ok_law_next (T : Txt K mg) : FnOk P w K mg base CX0 2 T.f__law_next T.d__law_next ["m", "many"] sp_law_next := by
  refine T.F__law_next.ok sc_law_next (fun vs H Q E h => ?_) (fun cdv A outer s H vs Q E hr h => ?_)
  · obtain ⟨m, c, l, n, many, rfl, _⟩ := h
    rfl
  · obtain ⟨m, c, l, n, many, rfl, p1, p2, D, q⟩ := h
    have hu := hu_of hr
    refine ⟨_,
(pss_cons (ps_while PassesOwn.never (PW.pt (pw_and (pt_cmpR (op_neD hr.units) (pe_dget hu (pv 0) pe_str (fun _ _ => rfl)) (pe_lst pa_nil) (nomark _)) (pw_and1 (pt_cmpR op_eq (pe_ix ix_list (pe_dget hu (pv 0) pe_str (fun _ _ => rfl)) pe_int (fun _ _ => rfl)) pe_int (nomark _))))) (pss_one (ps_dput hu (pv 0) pe_str (pe_slice sl_list (pe_dget hu (pv 0) pe_str (fun _ _ => rfl)) (po_some pe_int) po_none) rfl)))
      (pss_cons (ps_if (pt_cmpR (op_neD hr.units) (pe_dget hu (pv 0) pe_str (fun _ _ => rfl)) (pe_lst pa_nil) (nomark _)) (pss_cons (ps_set (i := 2) sc_law_next.nd rfl (Or.inl rfl) (pe_callTy call_int1 (by rfl) T.z_int (by decide +kernel) (pa_cons (pe_ix ix_list (pe_dget hu (pv 0) pe_str (fun _ _ => rfl)) pe_int (fun _ _ => rfl)) pa_nil)))
      (pss_cons (ps_asg (pe_op op_fdivW (pv 2) (pv 1)) (pg_sub (pe_dget hu (pv 0) pe_str (fun _ _ => rfl)) pe_int set_list))
      (pss_one (ps_ret (pe_op op_modN (pv 2) (pv 1)))))) pss_nil)
      (pss_cons (ps_set (i := 3) sc_law_next.nd rfl (Or.inl rfl) (pe_op op_add (pe_dget hu (pv 0) pe_str (fun _ _ => rfl)) pe_int))
      (pss_cons (ps_dput hu (pv 0) pe_str (pv 3) rfl)
      (pss_cons (ps_set (i := 4) sc_law_next.nd rfl (Or.inl rfl) (pe_ifExp (pt_cmpR (op_neD hr.units) (pe_dget hu (pv 0) pe_str (fun _ _ => rfl)) (pe_lst pa_nil) (nomark _)) (pe_ix ix_list (pe_dget hu (pv 0) pe_str (fun _ _ => rfl)) (pe_op op_modN (pe_callTy call_int1 (by rfl) T.z_int (by decide +kernel) (pa_cons (pv 3) pa_nil)) (pe_callB (call_len_seq) (by rfl) T.z_len (by decide +kernel) (pa_cons (pe_dget hu (pv 0) pe_str (fun _ _ => rfl)) pa_nil))) (fun _ _ => rfl)) pe_int))
      (pss_cons (ps_set (i := 5) sc_law_next.nd rfl (Or.inl rfl) (pe_op op_mul (pe_callTy call_int1 (by rfl) T.z_int (by decide +kernel) (pa_cons (pe_op op_add (pe_op op_add (pe_op op_modN (pe_callTy call_int1 (by rfl) T.z_int (by decide +kernel) (pa_cons (pv 4) pa_nil)) pe_int) (pe_op op_mul pe_int (pv 3))) (pe_op op_mul (pe_op op_mul pe_int (pv 3)) (pv 3))) pa_nil)) pe_int))
      (pss_cons (ps_set (i := 5) sc_law_next.nd rfl (Or.inl rfl) (pe_op op_mul (pe_callTy call_int1 (by rfl) T.z_int (by decide +kernel) (pa_cons (pe_op op_add (pe_op op_modN (pe_callTy call_int1 (by rfl) T.z_int (by decide +kernel) (pa_cons (pv 5) pa_nil)) pe_int) (pe_op op_mul pe_int (pv 3))) pa_nil)) pe_int))
      (pss_one (ps_ret (pe_op op_modN (pe_callTy call_int1 (by rfl) T.z_int (by decide +kernel) (pa_cons (pe_op op_fdivN (pe_op op_modN (pe_callTy call_int1 (by rfl) T.z_int (by decide +kernel) (pa_cons (pv 5) pa_nil)) pe_int) pe_int) pa_nil)) (pv 1)))))))))))
, ?_⟩
    refine st_tail (fun σ H' => ∃ (l' : Addr), σ = [some (.ref m), some (.int many), none, none, none, none] ∧ Kp m l H l' H' ∧ Dr H' m c l' (n + 1)) ?_ fun tail => ?_
    · rintro σ H1 ⟨l1, rfl, kp, D1⟩
      obtain ⟨cs, ls, k, h1, h2, h3, ncl, lc, ll, pos, k0, kn⟩ := D1.ex
      have nml : m ≠ l1 := ne_of h1 h3 nofun
      have nmc : m ≠ c := ne_of h1 h2 nofun
      -- if m['left'] != []
      refine ⟨_, rfl, m, .ref l1, rfl, dg_l h1, Nat.zero_le _, fun p hp => ?_⟩
      have g1 := same_new (o := .lst []) hp _ _ h1
      have g2 := same_new (o := .lst []) hp _ _ h2
      have g3 := same_new (o := .lst []) hp _ _ h3
      refine ⟨.list (pis ls), .list [], .lst (SqL.of g3) (dp_ints ls), .lst (SqL.of upd_same) .nil, shaped_ints ls, by rfl, _, rfl, ?_⟩
      rw [eqv_nil]
      have kp2 : Kp m l H l1 (upd H1 p (.lst [])) := kp.trans (Kp.new hp)
      have D2 : Dr (upd H1 p (.lst [])) m c l1 (n + 1) := D1.new hp
      cases ls with
      | cons x r =>
        refine iteT ?_
        have x0 : 0 ≤ x := pos x List.mem_cons_self
        refine ⟨_, rfl, m, .ref l1, rfl, dg_l g1, l1, _, 0, .int x, rfl, rfl, SqL.of g3, atI_nat (j := 0) rfl, .inl ⟨x, rfl, ?_⟩⟩
        -- m['left'][0] = rest // many
        refine ⟨_, rfl, _, rfl, x, many, rfl, rfl, wide_div (b := 40) p1 (by omega) (by decide) (by decide), _, rfl, m, .ref l1, rfl, dg_l g1, l1, _, 0, 0, rfl, rfl, g3, ixN_nat (j := 0) (by simp), ?_⟩
        refine ⟨_, rfl, _, rfl, x, many, rfl, rfl, by omega, ?_⟩
        show Q (.int (x.fmod many)) (upd (upd H1 p (.lst [])) l1 (.lst (((x / many) :: r).map V.int)))
        rw [Int.fmod_eq_emod_of_nonneg x (by omega)]
        refine q _ l1 _ (Int.emod_nonneg _ (by omega)) (Int.emod_lt_of_pos _ p1) ⟨fun b o hb n1 n2 => ?_, kp2.nw, fun b hb => ?_⟩ ⟨cs, (x / many) :: r, k, ?_, ?_, ?_, ncl, lc, ll, ?_, k0, by omega⟩
        · have e := kp2.st b o hb n1 n2
          rw [upd_ne (kp2.off hb n2)]
          exact e
        · refine kp2.dm b ?_
          unfold upd at hb ⊢
          split at hb
          · cases hb
          · exact hb
        · rw [upd_ne nml]; exact g1
        · rw [upd_ne ncl]; exact g2
        · exact upd_same
        · intro y hy
          rcases List.mem_cons.mp hy with e | e
          · rw [e]; exact Int.ediv_nonneg x0 (by omega)
          · exact pos y (List.mem_cons_of_mem _ e)
      | nil =>
        refine iteF ?_
        refine ⟨_, rfl, m, .int k, rfl, dg_a g1, _, _, rfl, rfl, _, rfl, _, rfl, m, _, rfl, dp_a g1, ?_⟩
        have a1 : (upd (upd H1 p (.lst [])) m (.dK (dd c l1 (k + 1)))) m = some (.dK (dd c l1 (k + 1))) := upd_same
        have a2 := (upd_ne (H := upd H1 p (.lst [])) (o := .dK (dd c l1 (k + 1))) nmc.symm).trans g2
        have a3 := (upd_ne (H := upd H1 p (.lst [])) (o := .dK (dd c l1 (k + 1))) nml.symm).trans g3
        have kp3 : Kp m l H l1 (upd (upd H1 p (.lst [])) m (.dK (dd c l1 (k + 1)))) := ⟨fun b o hb n1 n2 => (upd_ne n1).trans (kp2.st b o hb n1 n2), kp2.nw, fun b hb => kp2.dm b (by
          unfold upd at hb ⊢
          split at hb
          · cases hb
          · exact hb)⟩
        have D3 : Dr (upd (upd H1 p (.lst [])) m (.dK (dd c l1 (k + 1)))) m c l1 n := ⟨cs, [], k + 1, a1, a2, a3, ncl, lc, ll, pos, by omega, by omega⟩
        generalize upd (upd H1 p (.lst [])) m (.dK (dd c l1 (k + 1))) = H3 at a1 a2 a3 kp3 D3
        -- cell
        dsimp only
        refine st_tail (fun σ H' => ∃ (z : Int), σ = [some (.ref m), some (.int many), none, some (.int (k + 1)), some (.int z), none] ∧ Kp m l H l1 H' ∧ Dr H' m c l1 n) ?_ fun tail => ?_
        · rintro σ H4 ⟨z, rfl, kp4, D4⟩
          have kb : k + 1 ≤ 1000000 := by omega
          refine ⟨_, rfl, .inl ⟨z, rfl, _, _, rfl, rfl, (show (2147483629 : Int) ≠ 0 by decide), _, rfl, _, _, rfl, rfl, .inl ⟨by decide, by decide⟩, _, _, rfl, rfl, _, rfl, _, _, rfl, rfl, .inl ⟨by decide, by decide⟩,
            _, rfl, _, _, rfl, rfl, .inl ⟨by show -(2 ^ 64) < 19 * (k + 1); omega, by show 19 * (k + 1) < 2 ^ 64; omega⟩, _, _, rfl, rfl, .inl ⟨_, rfl, _, _, rfl, rfl, .inr ⟨by decide, by decide⟩, ?_⟩⟩⟩
          refine ⟨_, rfl, .inl ⟨_, rfl, _, _, rfl, rfl, (show (2147483647 : Int) ≠ 0 by decide), _, rfl, _, _, rfl, rfl, .inl ⟨by decide, by decide⟩, _, _, rfl, rfl, .inl ⟨_, rfl, _, _, rfl, rfl, .inr ⟨by decide, by decide⟩, ?_⟩⟩⟩
          refine ⟨_, rfl, .inl ⟨_, rfl, _, _, rfl, rfl, (show (2147483587 : Int) ≠ 0 by decide), _, _, rfl, rfl, ⟨by decide, by decide⟩, .inl ⟨_, rfl, _, rfl, _, _, rfl, rfl, by omega, ?_⟩⟩⟩
          refine q _ l1 _ ?_ ?_ kp4 D4
          · rw [Int.fmod_eq_emod_of_nonneg _ (by omega)]
            exact Int.emod_nonneg _ (by omega)
          · rw [Int.fmod_eq_emod_of_nonneg _ (by omega)]
            exact Int.emod_lt_of_pos _ p1
        refine ⟨_, rfl, m, .ref c, rfl, dg_c a1, Nat.zero_le _, fun p' hp' => ?_⟩
        have b1 := same_new (o := .lst []) hp' _ _ a1
        have b2 := same_new (o := .lst []) hp' _ _ a2
        refine ⟨.list (pis cs), .list [], .lst (SqL.of b2) (dp_ints cs), .lst (SqL.of upd_same) .nil, shaped_ints cs, by rfl, _, rfl, ?_⟩
        rw [eqv_nil]
        have kp4 : Kp m l H l1 (upd H3 p' (.lst [])) := kp3.trans (Kp.new hp')
        have D4 : Dr (upd H3 p' (.lst [])) m c l1 n := D3.new hp'
        cases cs with
        | nil =>
          refine iteF ?_
          exact tail _ _ ⟨3, rfl, kp4, D4⟩
        | cons y r =>
          refine iteT ?_
          obtain ⟨j, z, hj⟩ : ∃ (j : Nat) (z : Int), (k + 1).fmod (((y :: r).map V.int).length : Int) = (j : Int) ∧ ((y :: r).map V.int)[j]? = some (.int z) := by
            have hl : (0 : Int) < (((y :: r).map V.int).length : Int) := by
              show (0 : Int) < (((r.map V.int).length + 1 : Nat) : Int)
              omega
            rw [Int.fmod_eq_emod_of_nonneg _ (by omega)]
            have e1 := Int.emod_nonneg (k + 1) (b := (((y :: r).map V.int).length : Int)) (by omega)
            have e2 := Int.emod_lt_of_pos (k + 1) hl
            have hj : ((k + 1) % (((y :: r).map V.int).length : Int)).toNat < (y :: r).length := by
              have : ((y :: r).map V.int).length = (y :: r).length := List.length_map ..
              omega
            refine ⟨((k + 1) % (((y :: r).map V.int).length : Int)).toNat, (y :: r)[((k + 1) % (((y :: r).map V.int).length : Int)).toNat], by omega, ?_⟩
            rw [List.getElem?_map, List.getElem?_eq_getElem hj]
            rfl
          refine ⟨_, rfl, m, .ref c, rfl, dg_c b1, _, rfl, .inl ⟨_, rfl, _, rfl, m, .ref c, rfl, dg_c b1, c, _, rfl, .inl (SqL.of b2), _, _, rfl, rfl, by show (((y :: r).map V.int).length : Int) ≠ 0; simp; omega, c, _, _, .int z, rfl, rfl, SqL.of b2, ?_, ?_⟩⟩
          · show atI _ ((k + 1).fmod (((y :: r).map V.int).length : Int)) = some _
            rw [hj.1]
            exact atI_nat hj.2
          exact tail _ _ ⟨z, rfl, kp4, D4⟩
    -- the loop
    refine ⟨fun cnt σ H' => ∃ (l' : Addr) (cs ls : List Int) (k : Int), σ = [some (.ref m), some (.int many), none, none, none, none] ∧ Kp m l H l' H' ∧ ls.length = cnt ∧
      H' m = some (.dK (dd c l' k)) ∧ H' c = some (.lst (cs.map V.int)) ∧ H' l' = some (.lst (ls.map V.int)) ∧ c ≠ l' ∧
      cs.length ≤ 63 ∧ ls.length ≤ 63 ∧ (∀ x ∈ ls, 0 ≤ x) ∧ 0 ≤ k ∧ k + ((n + 1 : Nat) : Int) ≤ 1000000, ?_, ?_⟩
    · obtain ⟨cs, ls, k, r⟩ := D.ex
      exact ⟨ls.length, l, cs, ls, k, rfl, Kp.refl m l H, rfl, r⟩
    rintro cnt σ H1 ⟨l1, cs, ls, k, rfl, kp, hcnt, h1, h2, h3, ncl, lc, ll, pos, k0, kn⟩
    have nml : m ≠ l1 := ne_of h1 h3 nofun
    have nmc : m ≠ c := ne_of h1 h2 nofun
    refine ⟨_, rfl, m, .ref l1, rfl, dg_l h1, Nat.zero_le _, fun p hp => ?_⟩
    have g1 := same_new (o := .lst []) hp _ _ h1
    have g2 := same_new (o := .lst []) hp _ _ h2
    have g3 := same_new (o := .lst []) hp _ _ h3
    have kp2 : Kp m l H l1 (upd H1 p (.lst [])) := kp.trans (Kp.new hp)
    have D2 : Dr (upd H1 p (.lst [])) m c l1 (n + 1) := ⟨cs, ls, k, g1, g2, g3, ncl, lc, ll, pos, k0, kn⟩
    refine ⟨.list (pis ls), .list [], .lst (SqL.of g3) (dp_ints ls), .lst (SqL.of upd_same) .nil, shaped_ints ls, by rfl, _, rfl, ?_⟩
    rw [eqv_nil]
    cases ls with
    | nil =>
      refine iteF ?_
      refine iteF ?_
      exact tail _ _ ⟨l1, rfl, kp2, D2⟩
    | cons x r =>
      refine iteT ?_
      refine ⟨_, rfl, m, .ref l1, rfl, dg_l g1, l1, _, 0, .int x, rfl, rfl, SqL.of g3, atI_nat (j := 0) rfl, rfl, _, rfl, ?_⟩
      refine ite2 (fun e => ?_) (fun e => tail _ _ ⟨l1, rfl, kp2, D2⟩)
      generalize upd H1 p (.lst []) = H3 at g1 g2 g3 kp2 D2
      refine ⟨_, fun σ' H' hN => hN, ?_⟩
      refine ⟨_, rfl, m, .ref l1, rfl, dg_l g1, 1, rfl, l1, _, rfl, SqL.of g3, fun p2 hp2 => ⟨_, rfl, m, _, rfl, dp_l (same_new hp2 _ _ g1), ?_⟩⟩
      have np1 : p2 ≠ m := (ne_of_none g1 hp2).symm
      have np2 : p2 ≠ c := (ne_of_none g2 hp2).symm
      refine ⟨r.length, by rw [← hcnt]; simp, p2, cs, r, k, rfl, ⟨fun b o hb q1 q2 => ?_, ?_, fun b hb => ?_⟩, rfl, upd_same, (upd_ne nmc.symm).trans ((upd_ne np2.symm).trans g2), (upd_ne np1).trans ?_, np2.symm, lc, by simp at ll ⊢; omega, fun y hy => pos y (List.mem_cons_of_mem _ hy), k0, kn⟩
      · have e := kp2.st b o hb q1 q2
        rw [upd_ne q1, upd_ne (ne_of_none e hp2)]
        exact e
      · exact .inr (kp2.dm _ hp2)
      · refine kp2.dm b ?_
        unfold upd at hb
        split at hb
        · cases hb
        · split at hb
          · cases hb
          · exact hb
      · rw [upd_same]
        unfold cutV
        rw [HT.sIx_none, show HT.sIx ((x :: r).map V.int).length 0 (some 1) = min 1 ((x :: r).map V.int).length from HT.sIx_nat _ 0 1, show min 1 ((x :: r).map V.int).length = 1 by simp]
        show some (HO.lst (List.take (((x :: r).map V.int).length - 1) (r.map V.int))) = _
        rw [List.take_of_length_le (by simp)]
def sp_law_begun (K : PySem.W.Frag) : Sp := fun vs H Q _ => ∃ (a : Addr) (ns : List Int), vs = [.ref a] ∧ SqL K H a (ns.map V.int) ∧ ns.length ≤ 63 ∧
  ∀ (m c l : Addr) (H' : Hp), Same H H' → H m = none → H c = none → H l = none → Dr H' m c l 900000 → Q (.ref m) H'
theorem ok_law_begun (T : Txt K mg) : FnOk P w K mg base CX0 2 T.f__law_begun T.d__law_begun ["script"] (sp_law_begun K) := by
  refine T.F__law_begun.ok sc_law_begun (fun vs H Q E h => ?_) (fun cdv A outer s H vs Q E hr h => ?_)
  · obtain ⟨a, ns, rfl, _⟩ := h
    rfl
  · obtain ⟨a, ns, rfl, hS, hl, q⟩ := h
    have hu := hu_of hr
    refine ⟨_,
(pss_one (ps_ret (pe_disp (pps_cons pe_str (pe_callTy call_list_of (by rfl) T.z_list (by decide +kernel) (pa_cons (pv 0) pa_nil)) (pps_cons pe_str (pe_lc (own := [("cell", 1)]) rfl sc_law_begun.nd (pi_list (pv 0)) (blkOk_by (own := [("cell", 1)]) (N := ["script", "cell"]) (sc := defScope s_law_begun) (by decide +kernel)) (fun _ _ _ _ _ => (pg_name (i := 1) sc_law_begun.nd rfl (Or.inl rfl))) (fun _ _ _ _ _ => pts_one (pt_cmpR op_ge (pv 1) (pe_op op_pow pe_int pe_int) (nomark _))) (fun _ _ _ _ _ => (pv 1))) (pps_cons pe_str pe_int pps_nil))) (by rfl) (by rfl) (fun z => by cases z) (by decide))))
, ?_⟩
    intro p hp
    have s1 : Same H (upd H p (.dK [])) := same_new hp
    refine ⟨.ref a, rfl, a, _, rfl, .inl (s1.seq hS), fun c hc => ?_⟩
    have s2 := s1.trans (same_new (o := .lst (ns.map V.int)) hc)
    have ncp : p ≠ c := fun e => by rw [← e, upd_same] at hc; cases hc
    have e1 : upd (upd H p (.dK [])) c (.lst (ns.map V.int)) p = some (.dK []) := (upd_ne ncp).trans upd_same
    have e2 : upd (upd H p (.dK [])) c (.lst (ns.map V.int)) c = some (.lst (ns.map V.int)) := upd_same
    have hc0 : H c = none := s1.free hc
    generalize upd (upd H p (.dK [])) c (.lst (ns.map V.int)) = H1 at s2 e1 e2
    refine ⟨.ref a, rfl, a, rfl, ⟨_, s2.seq hS⟩, fun l hD => ?_⟩
    have nlp : p ≠ l := ne_of_none e1 hD
    have nlc : c ≠ l := ne_of_none e2 hD
    have hl0 : H l = none := s2.free hD
    refine lc_list (K := K) (a := a) (xs := ns.map V.int) (fun i H' => ∃ ls : List Int, ls.length ≤ i ∧ (∀ x ∈ ls, 0 ≤ x) ∧ H' = upd H1 l (.lst (ls.map V.int))) ⟨[], by simp, by simp, rfl⟩ ?_ ?_ ?_
    · rintro i H' _ ⟨ls, _, _, rfl⟩
      exact (same_new hD).seq (s2.seq hS)
    · rintro i x H' hx ⟨ls, h1, h2, rfl⟩
      obtain ⟨z, rfl⟩ : ∃ z, x = V.int z := by
        rw [List.getElem?_map] at hx
        cases e : ns[i]? with
        | none => rw [e] at hx; cases hx
        | some z => rw [e] at hx; exact ⟨z, (Option.some.inj hx).symm⟩
      have hi : i < 63 := by
        have := (List.getElem?_eq_some_iff.mp hx).1
        rw [List.length_map] at this
        omega
      refine ⟨rfl, _, rfl, 10, 18, rfl, rfl, ⟨by decide, by decide, by decide⟩, z, 1000000000000000000, rfl, rfl, _, rfl, ?_⟩
      refine ite2 (fun e => ?_) (fun e => ⟨ls, by omega, h2, rfl⟩)
      refine ⟨.int z, rfl, _, upd_same, ?_, ls ++ [z], ?_, ?_, ?_⟩
      · rw [List.length_map]; exact small1000 (by omega)
      · simp; omega
      · intro y hy
        rcases List.mem_append.mp hy with k | k
        · exact h2 y k
        · rw [List.mem_singleton.mp k]
          have := of_decide_eq_true e
          omega
      · rw [upd_upd, List.map_append]
        rfl
    · rintro H' ⟨ls, h1, h2, rfl⟩
      refine ⟨(upd_ne nlp).trans e1, [(Sum.inr "cells", V.ref c), (Sum.inr "left", V.ref l), (Sum.inr "at", V.int 0)], rfl, by show 3 ≤ 15; decide, ?_⟩
      rw [dd_mk]
      refine q p c l _ (fun b o hb => ?_) hp hc0 hl0 ⟨ns, ls, 0, upd_same, ?_, ?_, nlc, hl, by rw [List.length_map] at h1; omega, h2, by decide, by decide⟩
      · rw [upd_ne (ne_of_none hb hp), upd_ne (ne_of_none hb hl0)]
        exact s2 _ _ hb
      · rw [upd_ne ncp.symm, upd_ne nlc]; exact e2
      · rw [upd_ne nlp.symm, upd_same]
end
end My

namespace My
open PySem PySem.Spec PyProof.Rows L2
theorem dpAll_app {K : PySem.W.Frag} {H : Hp} : ∀ {xs ys : List V} {ds es : List PyData}, DpAll K H xs ds → DpAll K H ys es → DpAll K H (xs ++ ys) (ds ++ es)
  | _, _, _, _, .nil, h => h
  | _, _, _, _, .cons a b, h => .cons a (dpAll_app b h)
theorem pairs_set {K : PySem.W.Frag} {H : Hp} {p : Addr} {zs : List V} {o : HO} (hp : H p = some (.lst zs)) : ∀ {ss : List (Int × Int)} {xs : List V}, DpAll K H xs (ss.map pairI) → DpAll K (upd H p o) xs (ss.map pairI)
  | [], _, h => by cases h; exact .nil
  | s :: r, _, h => by
    cases h with
    | cons a b =>
      obtain ⟨t, rfl, ht⟩ := dp_pair a
      exact .cons (dp_mkpair (sqt_set hp ht)) (pairs_set hp b)
/-! ### what stands through draws: tuples -/
def Tp : HO → Prop
  | .tup _ => True
  | .frz _ _ => True
  | _ => False
def Keep (H H' : Hp) : Prop := ∀ b o, H b = some o → Tp o → H' b = some o
theorem Keep.refl (H : Hp) : Keep H H := fun _ _ h _ => h
theorem Keep.trans {H H1 H2 : Hp} (a : Keep H H1) (b : Keep H1 H2) : Keep H H2 := fun c o h t => b c o (a c o h t) t
theorem keep_same {H H' : Hp} (s : Same H H') : Keep H H' := fun b o h _ => s b o h
theorem keep_set {H : Hp} {p : Addr} {ys : List V} {o : HO} (hp : H p = some (.lst ys)) : Keep H (upd H p o) := fun b u h t => by
  have nb : b ≠ p := fun e => by
    rw [e, hp] at h
    cases h
    exact t
  rw [upd_ne nb]
  exact h
theorem keep_draw {m c l l' n : Addr} {H H' : Hp} (k : Kp m l H l' H') (d : Dr H m c l n) : Keep H H' := fun b o h t => by
  obtain ⟨cs, ls, z, h1, h2, h3, r⟩ := d.ex
  refine k.st b o h (fun e => ?_) (fun e => ?_)
  · rw [e, h1] at h
    cases h
    exact t
  · rw [e, h3] at h
    cases h
    exact t
theorem Keep.tup {K : PySem.W.Frag} {H H' : Hp} {a : Addr} {xs : List V} (k : Keep H H') (h : SqT K H a xs) : SqT K H' a xs := by
  rcases h with (h | ⟨u, h⟩) | h
  · exact .inl (.inl (k _ _ h trivial))
  · exact .inl (.inr ⟨u, k _ _ h trivial⟩)
  · exact .inr h
mutual
def noL : PyData → Bool
  | .list _ => false
  | .tuple ds => noLs ds
  | _ => true
def noLs : List PyData → Bool
  | [] => true
  | d :: r => noL d && noLs r
end
mutual
theorem dp_keep {K : PySem.W.Frag} {H H' : Hp} (s : Keep H H') : ∀ (d : PyData) (v : V), noL d = true → Dp K H v d → Dp K H' v d
  | .none, _, _, h => by cases h; exact .non
  | .bool _, _, _, h => by cases h; exact .bl _
  | .int _, _, _, h => by cases h; exact .int _
  | .str _, _, _, h => by cases h; exact .str _
  | .list ds, _, n, h => by cases n
  | .tuple ds, _, n, h => by
    cases h with
    | tup a b => exact .tup (s.tup a) (dpAll_keep s ds _ n b)
  | .dict _, _, _, h => by cases h
theorem dpAll_keep {K : PySem.W.Frag} {H H' : Hp} (s : Keep H H') : ∀ (ds : List PyData) (vs : List V), noLs ds = true → DpAll K H vs ds → DpAll K H' vs ds
  | [], _, _, h => by cases h; exact .nil
  | d :: ds, _, n, h => by
    cases h with
    | cons a b =>
      obtain ⟨n1, n2⟩ := Bool.and_eq_true_iff.mp (show (noL d && noLs ds) = true from n)
      exact .cons (dp_keep s d _ n1 a) (dpAll_keep s ds _ n2 b)
end
theorem noLs_all : ∀ {ds : List PyData}, (∀ d ∈ ds, noL d = true) → noLs ds = true
  | [], _ => rfl
  | d :: r, h => by
    show (noL d && noLs r) = true
    rw [h d List.mem_cons_self, noLs_all fun e he => h e (List.mem_cons_of_mem _ he)]
    rfl
theorem noL_pair (p : Int × Int) : noL (pairI p) = true := rfl
theorem noLs_pairs (ps : List (Int × Int)) : noLs (ps.map pairI) = true := noLs_all fun d hd => by
  obtain ⟨p, _, rfl⟩ := List.mem_map.mp hd
  rfl
theorem noLs_ints (ns : List Int) : noLs (ns.map .int) = true := noLs_all fun d hd => by
  obtain ⟨p, _, rfl⟩ := List.mem_map.mp hd
  rfl
theorem noL_row (r : List Nat) : noL (rowI r) = true := noLs_all fun d hd => by
  obtain ⟨p, _, rfl⟩ := List.mem_map.mp hd
  rfl
theorem noL_cod (C : Cod) : noL C.dat = true := by
  show (true && (true && (noLs (C.steps.map .int) && (noLs (C.moves.map pairI) && (true && true))))) = true
  rw [noLs_ints, noLs_pairs]
  rfl
/-- an own list through a draw -/
theorem Kp.own {m l l' : Addr} {H H' : Hp} (k : Kp m l H l' H') {p : Addr} {o : HO} (h : H p = some o) (n1 : p ≠ m) (n2 : p ≠ l) : H' p = some o ∧ p ≠ l' := ⟨k.st p o h n1 n2, k.off h n2⟩
/-- a change of an own list: for what stood ahead of it -/
theorem Kp.set {m l l' : Addr} {H H' : Hp} (k : Kp m l H l' H') {p : Addr} {o : HO} (h : H p = none) : Kp m l H l' (upd H' p o) := by
  refine ⟨fun b u hb n1 n2 => ?_, k.nw, fun b hb => ?_⟩
  · rw [upd_ne (ne_of_none hb h)]
    exact k.st b u hb n1 n2
  · unfold upd at hb
    split at hb
    · cases hb
    · exact k.dm b hb
/-- a list of one's own, apart from the drawer -/
structure Own (H : Hp) (m c l p : Addr) (xs : List V) : Prop where
  st : H p = some (.lst xs)
  nm : p ≠ m
  nc : p ≠ c
  nl : p ≠ l
theorem own_mk {H : Hp} {m c l p n : Nat} {xs : List V} (D : Dr H m c l n) (hp : H p = none) : Own (upd H p (.lst xs)) m c l p xs := by
  obtain ⟨cs, ls, z, e1, e2, e3, _⟩ := D.ex
  exact ⟨upd_same, (ne_of_none e1 hp).symm, (ne_of_none e2 hp).symm, (ne_of_none e3 hp).symm⟩
theorem Own.kp {H H' : Hp} {m c l l' p : Addr} {xs : List V} (o : Own H m c l p xs) (k : Kp m l H l' H') : Own H' m c l' p xs := ⟨k.st p _ o.st o.nm o.nl, o.nm, o.nc, k.off o.st o.nl⟩
theorem Own.same {H H' : Hp} {m c l p : Addr} {xs : List V} (o : Own H m c l p xs) (s : Same H H') : Own H' m c l p xs := ⟨s _ _ o.st, o.nm, o.nc, o.nl⟩
theorem Own.set {H : Hp} {m c l p q : Addr} {xs : List V} {u : HO} (o : Own H m c l p xs) (h : p ≠ q) : Own (upd H q u) m c l p xs := ⟨(upd_ne h).trans o.st, o.nm, o.nc, o.nl⟩
theorem Own.put {H : Hp} {m c l p : Addr} {xs ys : List V} (o : Own H m c l p xs) : Own (upd H p (.lst ys)) m c l p ys := ⟨upd_same, o.nm, o.nc, o.nl⟩
theorem Dr.put {H : Hp} {m c l n p : Nat} {xs ys : List V} (D : Dr H m c l n) (o : Own H m c l p xs) : Dr (upd H p (.lst ys)) m c l n := D.set o.nm o.nc o.nl
theorem Own.ne {H : Hp} {m c l p q : Addr} {xs : List V} (o : Own H m c l p xs) (h : H q = none) : p ≠ q := ne_of_none o.st h
theorem at3 {a b c : V} {g : Int} (h0 : 0 ≤ g) (h1 : g < 3) : ∃ v, atI [a, b, c] g = some v ∧ (v = a ∨ v = b ∨ v = c) := by
  have hg : g = 0 ∨ g = 1 ∨ g = 2 := by omega
  rcases hg with e | e | e <;> subst e
  · exact ⟨a, atI_nat (j := 0) rfl, .inl rfl⟩
  · exact ⟨b, atI_nat (j := 1) rfl, .inr (.inl rfl)⟩
  · exact ⟨c, atI_nat (j := 2) rfl, .inr (.inr rfl)⟩
theorem at4 {a b c d : V} {g : Int} (h0 : 0 ≤ g) (h1 : g < 4) : ∃ v, atI [a, b, c, d] g = some v ∧ (v = a ∨ v = b ∨ v = c ∨ v = d) := by
  have hg : g = 0 ∨ g = 1 ∨ g = 2 ∨ g = 3 := by omega
  rcases hg with e | e | e | e <;> subst e
  · exact ⟨a, atI_nat (j := 0) rfl, .inl rfl⟩
  · exact ⟨b, atI_nat (j := 1) rfl, .inr (.inl rfl)⟩
  · exact ⟨c, atI_nat (j := 2) rfl, .inr (.inr (.inl rfl))⟩
  · exact ⟨d, atI_nat (j := 3) rfl, .inr (.inr (.inr rfl))⟩
section
variable {P : Program} {w : World} {K : PySem.W.Frag} {mg : Str → Option Value} {base : Heap}
theorem yes_turn {te : TE} {σ : L2.St} {H : Hp} {Q : VK} {R : Hp → Prop} (h : te σ H Q) : tYes σ H fun b H3 => if b = true then te σ H3 Q else R H3 := by
  show if true = true then te σ H Q else R H
  rw [if_pos rfl]
  exact h
/-- n draws at most, behind which z stands for something of which G holds -/
def spDraw (args : Addr → List V → Prop) (n : Nat) (G : Hp → V → Prop) : Sp := fun vs H Q _ => ∃ (m c l : Addr) (k : Nat), args m vs ∧ Dr H m c l (k + n) ∧
  ∀ z l' H', Kp m l H l' H' → Dr H' m c l' k → G H' z → Q z H'
/-- what a drawn coder is like -/
structure Small (C : Cod) (wide places codes : Int) : Prop where
  lo : -wide ≤ C.low ∧ C.low ≤ 0
  hi : 0 ≤ C.high ∧ C.high ≤ wide
  st : 1 ≤ C.steps.length ∧ (C.steps.length : Int) ≤ places
  ss : ∀ s ∈ C.steps, 1 ≤ s ∧ s ≤ 2 * wide + 2
  mv : 2 ≤ C.moves.length ∧ (C.moves.length : Int) ≤ codes
  mm : ∀ p ∈ C.moves, (-16 ≤ p.1 ∧ p.1 ≤ 16) ∧ (-2 ≤ p.2 ∧ p.2 ≤ 2)
  fd : C.fade = 0 ∨ (2 ≤ C.fade ∧ C.fade ≤ 5)
theorem Small.ok {C : Cod} {wide places codes : Int} (h : Small C wide places codes) (h1 : wide ≤ 4000) (h2 : places ≤ 16) (h3 : codes ≤ 16) : C.Ok := by
  obtain ⟨⟨a1, a2⟩, ⟨b1, b2⟩, ⟨c1, c2⟩, d, ⟨e1, e2⟩, f, g⟩ := h
  refine ⟨by omega, a2, b1, by omega, c1, by omega, fun s hs => ?_, e1, by omega, fun p hp => ?_, by omega⟩
  · have := d s hs
    omega
  · have := f p hp
    omega
end
end My

namespace My
open PySem PySem.Spec PyProof.Rows L2
/-! ### the size of what is written out -/
structure Sh (k n : Nat) (d : PyData) : Prop where
  sh : d.showable = true
  nd : d.hasDict = false
  dp : d.depth ≤ k
  le : d.shown.length ≤ n
theorem Sh.mono {k n k' n' : Nat} {d : PyData} (h : Sh k n d) (h1 : k ≤ k') (h2 : n ≤ n') : Sh k' n' d := ⟨h.sh, h.nd, Nat.le_trans h.dp h1, Nat.le_trans h.le h2⟩
theorem sh_int {i : Int} (h : i.natAbs < 2 ^ 64) : Sh 0 1921 (.int i) := by
  have hl : i.natAbs.log2 < 1920 := Nat.lt_trans (PySem.Flt.log2_lt_of (by decide) h) (by decide)
  exact ⟨decide_eq_true hl, rfl, Nat.le_refl _, int_text_len_1921 hl⟩
theorem sh_all {k n : Nat} : ∀ {ds : List PyData}, (∀ d ∈ ds, Sh k n d) → PyData.showableAll ds = true ∧ PyData.hasDictAll ds = false ∧ PyData.depthAll ds ≤ k ∧ piled (PyData.shownAll ds) ≤ ds.length * (n + 2) ∧ (PyData.shownAll ds).length = ds.length
  | [], _ => ⟨rfl, rfl, Nat.zero_le _, Nat.zero_le _, rfl⟩
  | d :: r, h => by
    obtain ⟨h1, h2, h3, h4, h5⟩ := sh_all fun e he => h e (List.mem_cons_of_mem d he)
    have hd := h d List.mem_cons_self
    refine ⟨?_, ?_, ?_, ?_, ?_⟩
    · show (d.showable && PyData.showableAll r) = true
      rw [hd.sh, h1]
      rfl
    · show (d.hasDict || PyData.hasDictAll r) = false
      rw [hd.nd, h2]
      rfl
    · show max d.depth (PyData.depthAll r) ≤ k
      exact Nat.max_le.mpr ⟨hd.dp, h3⟩
    · show piled (d.shown :: PyData.shownAll r) ≤ (r.length + 1) * (n + 2)
      rw [piled_cons, Nat.succ_mul]
      have := hd.le
      omega
    · show (PyData.shownAll r).length + 1 = r.length + 1
      rw [h5]
theorem sh_tup {k n : Nat} {ds : List PyData} (h : ∀ d ∈ ds, Sh k n d) : Sh (k + 1) (ds.length * (n + 2) + 3) (.tuple ds) := by
  obtain ⟨h1, h2, h3, h4, h5⟩ := sh_all h
  refine ⟨h1, h2, Nat.succ_le_succ h3, ?_⟩
  show (tupleText (PyData.shownAll ds)).length ≤ _
  unfold tupleText
  rw [strLen_append, strLen_append]
  have e1 : ((("(" : String) : Str)).length = 1 := rfl
  have e3 : (((if (PyData.shownAll ds).length == 1 then ",)" else ")" : String) : Str)).length ≤ 2 := by split <;> decide
  rw [e1]
  by_cases hn : PyData.shownAll ds = []
  · rw [hn] at e3 ⊢
    have : (Str.join ", " []).length = 0 := rfl
    omega
  · have := join_length_add (PyData.shownAll ds) hn
    omega
theorem sh_list2 {k n : Nat} {a b : PyData} (h1 : Sh k n a) (h2 : Sh k n b) : Sh (k + 1) (2 * n + 4) (.list [a, b]) := by
  refine ⟨?_, ?_, ?_, ?_⟩
  · show (a.showable && (b.showable && true)) = true
    rw [h1.sh, h2.sh]
    rfl
  · show (a.hasDict || (b.hasDict || false)) = false
    rw [h1.nd, h2.nd]
    rfl
  · show max a.depth (max b.depth 0) + 1 ≤ k + 1
    have := h1.dp
    have := h2.dp
    omega
  · show (listText [a.shown, b.shown]).length ≤ _
    have e : listText [a.shown, b.shown] = (((((Str.ofString "[" ++ Str.ofString "") ++ a.shown) ++ Str.ofString ", ") ++ b.shown) ++ Str.ofString "]") := rfl
    rw [e, strLen_append, strLen_append, strLen_append, strLen_append, strLen_append]
    have e0 : (Str.ofString "").length = 0 := by decide
    have e1 : (Str.ofString "[").length = 1 := by decide
    have e2 : (Str.ofString "]").length = 1 := by decide
    have e3 : (Str.ofString ", ").length = 2 := by decide
    have := h1.le
    have := h2.le
    omega
theorem sh_ints {ns : List Int} (h : ∀ z ∈ ns, z.natAbs < 2 ^ 64) : Sh 1 (ns.length * 1923 + 3) (.tuple (ns.map .int)) := by
  have := sh_tup (k := 0) (n := 1921) (ds := ns.map .int) fun d hd => by
    obtain ⟨z, hz, rfl⟩ := List.mem_map.mp hd
    exact sh_int (h z hz)
  rw [List.length_map] at this
  exact this
theorem sh_pair {s : Int × Int} (h1 : s.1.natAbs < 2 ^ 64) (h2 : s.2.natAbs < 2 ^ 64) : Sh 1 4000 (pairI s) :=
  (sh_tup (k := 0) (n := 1921) (ds := [.int s.1, .int s.2]) fun d hd => by
    rcases List.mem_cons.mp hd with e | e
    · rw [e]; exact sh_int h1
    · rw [List.mem_singleton.mp e]; exact sh_int h2).mono (Nat.le_refl _) (by simp)
theorem sz_line {n : Nat} (h : n ≤ 1000000) : n ≤ sizeLine := Nat.le_trans h (by decide)
/-! ### slices and sums of tuples -/
theorem cut_take {xs : List V} {n : Nat} (h : n ≤ xs.length) : cutV xs none (some (n : Int)) = xs.take n := by
  unfold cutV
  rw [HT.sIx_none, HT.sIx_nat, Nat.min_eq_left h]
  rfl
theorem cut_drop {xs : List V} {n : Nat} (h : n ≤ xs.length) : cutV xs (some (n : Int)) none = xs.drop n := by
  unfold cutV
  rw [HT.sIx_none, HT.sIx_nat, Nat.min_eq_left h]
  exact List.take_of_length_le (by simp)
theorem dp_row {K : PySem.W.Frag} {H : Hp} {a : Addr} {r : List Nat} (h : SqT K H a (rowV r)) : Dp K H (.ref a) (rowI r) := by
  refine .tup h ?_
  clear h
  induction r with
  | nil => exact .nil
  | cons n r ih => exact .cons (.int n) ih
theorem sl_take {K : PySem.W.Frag} {H : Hp} {a : Addr} {r : List Nat} {n : Nat} {Q : VK} (h : SqT K H a (rowV r)) (hn : n ≤ r.length) (k : ∀ v H', Same H H' → Dp K H' v (rowI (r.take n)) → Q v H') :
    rSlA K (.ref a) none (some (n : Int)) H Q := by
  have hl : (rowV r).length = r.length := List.length_map ..
  refine ⟨a, rowV r, rfl, h, fun ⟨_, e⟩ => ?_, fun _ p hp => ?_⟩
  · rw [HT.sIx_nat, hl, Nat.min_eq_left hn] at e
    refine k _ H (Same.refl H) ?_
    rw [e, List.take_length]
    exact dp_row h
  · refine k _ _ (same_new hp) ?_
    rw [cut_take (by omega), show (rowV r).take n = rowV (r.take n) from List.map_take.symm]
    exact dp_row upd_tup
theorem sl_drop {K : PySem.W.Frag} {H : Hp} {a : Addr} {r : List Nat} {n : Nat} {Q : VK} (h : SqT K H a (rowV r)) (hn : n ≤ r.length) (k : ∀ v H', Same H H' → Dp K H' v (rowI (r.drop n)) → Q v H') :
    rSlA K (.ref a) (some (n : Int)) none H Q := by
  have hl : (rowV r).length = r.length := List.length_map ..
  refine ⟨a, rowV r, rfl, h, fun ⟨e, _⟩ => ?_, fun _ p hp => ?_⟩
  · rw [HT.sIx_nat, hl, Nat.min_eq_left hn] at e
    refine k _ H (Same.refl H) ?_
    rw [e]
    exact dp_row h
  · refine k _ _ (same_new hp) ?_
    rw [cut_drop (by omega), show (rowV r).drop n = rowV (r.drop n) from List.map_drop.symm]
    exact dp_row upd_tup
theorem cat_ints {K : PySem.W.Frag} {H : Hp} {a b : Addr} {ns ms : List Int} {Q : VK} (ha : SqT K H a (ns.map V.int)) (hb : SqT K H b (ms.map V.int)) (hl : ns.length + ms.length ≤ sizeLine)
    (k : ∀ v H', Same H H' → Dp K H' v (.tuple ((ns ++ ms).map .int)) → Q v H') : rCatA K (.ref a) (.ref b) H Q := by
  refine ⟨a, b, _, _, rfl, rfl, ha, hb, by rw [List.length_map, List.length_map]; exact hl, fun e => ?_, fun _ e => ?_, fun _ _ p hp => ?_⟩
  · have e' : ns = [] := List.map_eq_nil_iff.mp e
    refine k _ H (Same.refl H) ?_
    rw [e']
    exact dp_tints hb
  · have e' : ms = [] := List.map_eq_nil_iff.mp e
    refine k _ H (Same.refl H) ?_
    rw [e', List.append_nil]
    exact dp_tints ha
  · refine k _ _ (same_new hp) (dp_tints ?_)
    rw [List.map_append]
    exact upd_tup
theorem dp_last {K : PySem.W.Frag} {H : Hp} {xs : List V} {ps : List (Int × Int)} {s : Int × Int} (h : DpAll K H xs ((ps ++ [s]).map pairI)) : ∃ ys z, xs = ys ++ [z] ∧ Dp K H z (pairI s) := by
  have hl := dpAll_len h
  have hne : xs ≠ [] := by
    intro e
    rw [e] at hl
    simp at hl
  obtain ⟨z, hz, hd⟩ := dpAll_get' h (i := ps.length) (d := pairI s) (by rw [List.map_append, List.getElem?_append_right (by simp)]; simp)
  refine ⟨xs.dropLast, z, ?_, hd⟩
  have hxl : xs.length = ps.length + 1 := by rw [hl]; simp
  have : xs.getLast hne = z := by
    rw [List.getLast_eq_getElem]
    have e : xs[xs.length - 1]? = some z := by rw [hxl]; exact hz
    exact (List.getElem?_eq_some_iff.mp e).2
  rw [← this]
  exact (List.dropLast_concat_getLast hne).symm
/-- repr(..) of data that is small -/
theorem rr {K : PySem.W.Frag} {H : Hp} {v : V} {d : PyData} {k n : Nat} {Q : VK} (h : Dp K H v d) (s : Sh k n d) (hk : k ≤ 60) (hn : n ≤ 1000000) (q : Q (.str d.shown) H) : rRepr K [v] H Q :=
  ⟨v, d, rfl, h, s.sh, s.nd, Nat.le_trans s.dp hk, sz_line (Nat.le_trans s.le hn), q⟩
/-- x != y of equal texts -/
theorem ne_same {x : Str} {A B : Hp → Prop} {H : Hp} (q : B H) : rNe (.str x) (.str x) H fun v H' => ∃ c, v = .bl c ∧ if c = true then A H' else B H' := by
  refine ⟨rfl, false, ?_, iteF q⟩
  show V.bl (!decide (V.str x = V.str x)) = V.bl false
  rw [decide_eq_true rfl]
  rfl
theorem eq_same {x : Str} {H : Hp} {Q : VK} (q : Q (.bl true) H) : rEq (.str x) (.str x) H Q := by
  refine ⟨rfl, ?_⟩
  rw [decide_eq_true rfl]
  exact q
end My

set_option pp.maxSteps 1500
namespace My
open PySem PySem.Spec PyProof.Rows L2
theorem lt_line {n : Nat} (h : n ≤ 1000000) : n < sizeLine := Nat.lt_of_le_of_lt h (by decide)
theorem len_bl : (" " : Str).length ≤ 1 := by decide +kernel
theorem few_sum {ws : List Str} {y : Str} (h : ∀ w ∈ ws, w.length ≤ 6) (hl : ws.length ≤ 10000) (hy : y.length ≤ 1) : (ws.map (·.length)).sum + ws.length * y.length ≤ 16777216 := by
  have h := sum_len h
  have : ws.length * y.length ≤ 10000 * 1 := Nat.mul_le_mul hl hy
  omega
theorem tyx_same {K : PySem.W.Frag} {H H' : Hp} {x : V} {T : String} (s : Same H H') (h1 : TyX K H x (.type T)) : TyX K H' x (.type T) := by
  cases h1 with
  | base h =>
    cases h with
    | non => exact .base .non
    | bl b => exact .base (.bl b)
    | int i => exact .base (.int i)
    | str x => exact .base (.str x)
    | flt x => exact .base (.flt x)
    | lst e => exact .base (.lst (s _ _ e))
    | frz e => exact .base (.frz (s _ _ e))
    | tup e => exact .base (.tup (s _ _ e))
    | dK e => exact .base (.dK (s _ _ e))
    | dT e => exact .base (.dT (s _ _ e))
  | byt b => exact .byt b
  | set e => exact .set (s _ _ e)
  | kList e c => exact .kList e c
  | kTuple e c => exact .kTuple e c
  | kDict e c => exact .kDict e c
  | fTuple e => exact .fTuple (s _ _ e)
  | fDict e => exact .fDict (s _ _ e)
/-- a thing handed in as a text: a text, or anything but a text -/
def ThS (K : PySem.W.Frag) (H : Hp) (x : V) : Option Str → Prop
  | none => ∃ T : String, TyX K H x (.type T) ∧ PySem.W.kitOne K (.type T) (.type "str") = some false
  | some t => x = .str t
theorem ThS.same {K : PySem.W.Frag} {H H' : Hp} {x : V} {r : Option Str} (s : Same H H') (h : ThS K H x r) : ThS K H' x r := by
  cases r with
  | some t => exact h
  | none =>
    obtain ⟨T, h1, h2⟩ := h
    exact ⟨T, tyx_same s h1, h2⟩
theorem ths_of {K : PySem.W.Frag} {H : Hp} {x : V} {T : String} (h : TyOf K H x (.type T)) (e : kitB T "str" = some false) : ThS K H x none := ⟨T, .base h, kit_ty e⟩
/-- digits: all signs -/
theorem dig_iff (c : Nat) : decide (c ∈ ("0123456789" : Str).cps.toList) = true ↔ 48 ≤ c ∧ c ≤ 57 := by
  rw [decide_eq_true_eq]
  have e : ("0123456789" : Str).cps.toList = [48, 49, 50, 51, 52, 53, 54, 55, 56, 57] := by decide +kernel
  rw [e]
  constructor
  · intro h
    simp at h
    omega
  · intro h
    simp
    omega
theorem all_dig {l : List Nat} : (l.map fun c => decide (c ∈ ("0123456789" : Str).cps.toList)).all id = true ↔ NumText.AllDigits l := by
  rw [List.all_eq_true]
  constructor
  · intro h c hc
    exact (dig_iff c).mp (h _ (List.mem_map.mpr ⟨c, hc, rfl⟩))
  · intro h b hb
    obtain ⟨c, hc, rfl⟩ := List.mem_map.mp hb
    exact (dig_iff c).mpr (h c hc)
theorem num_form {w z : Str} (h : TL.tl w = 45 :: TL.tl z ∨ ((∀ ds, TL.tl w ≠ 45 :: ds) ∧ z = w)) :
    IsNum w ↔ (1 ≤ z.length ∧ z.length ≤ 5) ∧ NumText.AllDigits (TL.tl z) ∧ (w = "0" ∨ (TL.tl z).head? ≠ some 48) := by
  rw [TL.len_tl]
  rcases h with h | ⟨h, rfl⟩
  · rw [num_neg h]
    constructor
    · rintro ⟨a, b, c⟩
      exact ⟨a, b, .inr c⟩
    · rintro ⟨a, b, c | c⟩
      · rw [c, show TL.tl "0" = [48] by decide +kernel] at h
        cases h
      · exact ⟨a, b, c⟩
  · exact num_pos h
theorem cut_tail {w : Str} {ds : List Nat} (h : TL.tl w = 45 :: ds) : TL.tl (cutS w (some 1) none) = ds := by
  have hl : w.length = ds.length + 1 := by rw [TL.len_tl, h]; rfl
  show ((((w).cps.toList.drop (HT.sIx w.length 0 (some ((1 : Nat) : Int)))).take (HT.sIx w.length w.length none - HT.sIx w.length 0 (some ((1 : Nat) : Int)))).toArray).toList = _
  rw [HT.sIx_nat, HT.sIx_none, show w.cps.toList = 45 :: ds from h, hl, show min 1 (ds.length + 1) = 1 by omega, Nat.add_sub_cancel]
  show ds.take _ = _
  rw [List.take_length]
theorem sl_takeV {K : PySem.W.Frag} {H : Hp} {a : Addr} {xs : List V} {n : Nat} {Q : VK} (h : SqT K H a xs) (hn : n ≤ xs.length) (k : ∀ b H', Same H H' → SqT K H' b (xs.take n) → Q (.ref b) H') :
    rSlA K (.ref a) none (some (n : Int)) H Q := by
  refine ⟨a, xs, rfl, h, fun ⟨_, e⟩ => ?_, fun _ p hp => ?_⟩
  · rw [HT.sIx_nat, Nat.min_eq_left hn] at e
    refine k _ H (Same.refl H) ?_
    rw [e, List.take_length]
    exact h
  · refine k _ _ (same_new hp) ?_
    rw [cut_take (by omega)]
    exact upd_tup
theorem sl_dropV {K : PySem.W.Frag} {H : Hp} {σ : L2.St} {a : Addr} {xs : List V} {n : Nat} {Q : VK} (h : SqT K H a xs) (hn : n ≤ xs.length) (k : ∀ b H', Same H H' → SqT K H' b (xs.drop n) → Q (.ref b) H') :
    tNoPart σ H fun u H3 => rSlA K (.ref a) (some (n : Int)) u H3 Q := by
  refine ⟨a, xs, rfl, h, fun ⟨e, _⟩ => ?_, fun _ p hp => ?_⟩
  · rw [HT.sIx_nat, Nat.min_eq_left hn] at e
    refine k _ H (Same.refl H) ?_
    rw [e]
    exact h
  · refine k _ _ (same_new hp) ?_
    rw [cut_drop (by omega)]
    exact upd_tup
theorem catV {K : PySem.W.Frag} {H : Hp} {a b : Addr} {xs ys : List V} {Q : VK} (ha : SqT K H a xs) (hb : SqT K H b ys) (hl : xs.length + ys.length ≤ sizeLine)
    (k : ∀ p H', Same H H' → SqT K H' p (xs ++ ys) → Q (.ref p) H') : rCatA K (.ref a) (.ref b) H Q := by
  refine ⟨a, b, _, _, rfl, rfl, ha, hb, hl, fun e => ?_, fun _ e => ?_, fun _ _ p hp => ?_⟩
  · refine k _ H (Same.refl H) ?_
    rw [e]
    exact hb
  · refine k _ H (Same.refl H) ?_
    rw [e, List.append_nil]
    exact ha
  · exact k _ _ (same_new hp) upd_tup
theorem neD_f {K : PySem.W.Frag} {H : Hp} {x y : V} {d : PyData} {Z : Bool → Hp → Prop} (hx : Dp K H x d) (hy : Dp K H y d) (hs : SeqAt.shaped d = true) (q : Z false H) :
    rNeD K x y H fun v H' => ∃ k, v = .bl k ∧ Z k H' := by
  refine ⟨d, d, hx, hy, hs, hs, false, ?_, q⟩
  rw [SeqAt.eqv_refl d (SeqAt.canLay_of_shaped hs)]
  rfl
theorem eqD_t {K : PySem.W.Frag} {H : Hp} {x y : V} {d : PyData} {Q : VK} (hx : Dp K H x d) (hy : Dp K H y d) (hs : SeqAt.shaped d = true) (q : Q (.bl true) H) : rEqD K x y H Q := by
  refine ⟨d, d, hx, hy, hs, hs, ?_⟩
  rw [SeqAt.eqv_refl d (SeqAt.canLay_of_shaped hs)]
  exact q

def RowE (C : Addr) (H : Hp) (E : XK) (i j : Int) : Prop := TwoE C "row" "word" H E (.int i) (.int j)
theorem RowE.same {C : Addr} {H H' : Hp} {E : XK} {i j : Int} (s : Same H H') (h : RowE C H E i j) : RowE C H' E i j := TwoE.same s h
theorem rowE_mk {C : Addr} {H : Hp} {E : XK} {i j : Int} (h : RowE C H E i j) {a d : Addr} {o1 o2 o3 o4 : HO} (ha : H a = none) (hd : upd H a o1 d = none) (n : d ≠ a) :
    E (.ref C) (some d) (upd (del (upd (upd (upd (upd H a o1) d o2) a o3) d o4) a) d (.xd [("word", V.int j), ("row", V.int i)])) := twoE_mk h ha hd n
theorem take_snocS {α : Type} {r : List α} {i : Nat} {k : α} (h : r[i]? = some k) : r.take (i + 1) = r.take i ++ [k] := take_snoc h
section
variable {P : Program} {w : World} {K : PySem.W.Frag} {mg : Str → Option Value} {base : Heap}
theorem oki_BadRow (T : Txt K mg) : FnOk P w K mg base CX0 2 T.fi_BadRow T.di_BadRow ["self", "row", "word"] (sp_init2 T.C_BadRow "row" "word") := by
  refine T.Fi_BadRow.ok sci_BadRow (fun vs H Q E h => ?_) (fun cdv A outer s H vs Q E hr h => ?_)
  · obtain ⟨a, x, y, rfl, _⟩ := h
    rfl
  · obtain ⟨a, x, y, rfl, ha, q⟩ := h
    refine ⟨_, pss_cons (ps_ost (pv 0) (pv 1)) (pss_one (ps_ost (pv 0) (pv 2))), ?_⟩
    refine ⟨_, rfl, _, rfl, a, T.C_BadRow, rfl, T.o_BadRow, T.n_BadRow_row, .inl ⟨ha, fun dx hdx ne => ?_⟩⟩
    refine ⟨_, rfl, _, rfl, a, T.C_BadRow, rfl, T.o_BadRow, T.n_BadRow_word, .inr ⟨dx, _, upd_same, (upd_ne ne).trans upd_same, by show 1 ≤ 900; decide, q dx hdx ne⟩⟩
def sp_need_text (K : PySem.W.Frag) (BR : Addr) : Sp := fun vs H Q E => ∃ (x : V) (r : Option Str), vs = [x] ∧ ThS K H x r ∧ (∀ t, r = some t → Q .non H) ∧ (r = none → RowE BR H E 0 0)
theorem ok_need_text (T : Txt K mg) : FnOk P w K mg base (L2.CX P w) 4 T.f__need_text T.d__need_text ["thing"] (sp_need_text K T.C_BadRow) := by
  refine T.F__need_text.okX sc_need_text (fun vs H Q E h => ?_) (fun cdv A outer s H vs Q E hr h => ?_)
  · obtain ⟨x, r, rfl, _⟩ := h
    rfl
  · obtain ⟨x, r, rfl, hx, q1, q2⟩ := h
    refine ⟨_,
(pss_one (ps_if (pt_not (pt_val (pe_callB (call_isi) (by rfl) T.z_isinstance (by decide +kernel) (pa_cons (pv 0) (pa_cons (pe_bltn (v := .ty "str") (by rfl) T.z_str (by decide +kernel) rfl) pa_nil))))) (pss_one (ps_raise rfl (takes_of rfl rfl rfl rfl) (pmk_oex T.o_BadRow T.i_BadRow T.t_BadRow (oki_BadRow T) (hr.mono (by decide)) T.bi_BadRow .nil pass0 (by rfl) T.g_BadRow (pa_cons pe_int (pa_cons pe_int pa_nil))))) pss_nil))
, ?_⟩
    cases r with
    | some t =>
      obtain rfl : x = .str t := hx
      refine ⟨_, rfl, _, .ty "str", _, _, _, rfl, .ty _, .base (.str t), kit_ty (a := "str") (b := "str") (r := true) (by decide +kernel), _, rfl, ?_⟩
      exact iteF (q1 t rfl)
    | none =>
      obtain ⟨TT, t1, t2⟩ := hx
      refine ⟨_, rfl, _, .ty "str", _, _, _, rfl, .ty _, t1, t2, _, rfl, ?_⟩
      refine iteT ?_
      refine ⟨by decide, fun a ha => ⟨a, .int 0, .int 0, rfl, upd_same, fun d hd n => ⟨rfl, d, _, (upd_ne n.symm).trans upd_same, upd_same, (upd_ne n).symm.trans hd, rowE_mk (q2 rfl) ha hd n⟩⟩⟩
def sp_no_empty (K : PySem.W.Frag) (BR : Addr) : Sp := fun vs H Q E => ∃ (r : Int) (a : Addr) (ws : List Str), vs = [.int r, .ref a] ∧ SqL K H a (strV ws) ∧ (inV (.str "") (strV ws) = false → Q .non H) ∧ (inV (.str "") (strV ws) = true → RowE BR H E r 0)
theorem ok_need_no_empty_word (T : Txt K mg) : FnOk P w K mg base (L2.CX P w) 4 T.f__need_no_empty_word T.d__need_no_empty_word ["row", "words"] (sp_no_empty K T.C_BadRow) := by
  refine T.F__need_no_empty_word.okX sc_need_no_empty_word (fun vs H Q E h => ?_) (fun cdv A outer s H vs Q E hr h => ?_)
  · obtain ⟨r, a, ws, rfl, _⟩ := h
    rfl
  · obtain ⟨r, a, ws, rfl, hw, q1, q2⟩ := h
    refine ⟨_,
(pss_one (ps_if (pt_cmpR op_in_seq pe_str (pv 1) (by with_unfolding_all rfl)) (pss_one (ps_raise rfl (takes_of rfl rfl rfl rfl) (pmk_oex T.o_BadRow T.i_BadRow T.t_BadRow (oki_BadRow T) (hr.mono (by decide)) T.bi_BadRow .nil pass0 (by rfl) T.g_BadRow (pa_cons (pv 0) (pa_cons pe_int pa_nil))))) pss_nil))
, ?_⟩
    refine ⟨_, rfl, a, _, rfl, .inl hw, rfl, flat_strs ws, _, rfl, ?_⟩
    show if inV (.str "") (strV ws) = true then _ else _
    cases h : inV (.str "") (strV ws) with
    | false => exact iteF (q1 h)
    | true =>
      refine iteT ?_
      refine ⟨_, rfl, by show 2 ≤ 1000; decide, fun a ha => ⟨a, .int r, .int 0, rfl, upd_same, fun d hd n => ⟨rfl, d, _, (upd_ne n.symm).trans upd_same, upd_same, (upd_ne n).symm.trans hd, rowE_mk (q2 h) ha hd n⟩⟩⟩
def sp_is_number : Sp := fun vs H Q _ => ∃ x : Str, vs = [.str x] ∧ x.length ≤ 1000000 ∧ ∀ b H', Same H H' → (b = true ↔ IsNum x) → Q (.bl b) H'
theorem ok_is_number (T : Txt K mg) : FnOk P w K mg base CX0 2 T.f__is_number T.d__is_number ["word"] sp_is_number := by
  refine T.F__is_number.ok sc_is_number (fun vs H Q E h => ?_) (fun cdv A outer s H vs Q E hr h => ?_)
  · obtain ⟨n, rfl, _⟩ := h
    rfl
  · obtain ⟨x, rfl, hx, q⟩ := h
    refine ⟨_,
(pss_cons (ps_set (i := 1) sc_is_number.nd rfl (Or.inl rfl) (pe_ifExp (pt_val (pe_bm PySem.F.plainAttrs_str PySem.F.slot_str_startswith PySem.F.type_str_startswith mt_startswith (pv 0) (pa_cons pe_str pa_nil))) (pe_slice sl_str (pv 0) (po_some pe_int) po_none) (pv 0)))
      (pss_cons (ps_if (pt_not (pt_chain op_le op_le pe_int (pe_callB call_len_str (by rfl) T.z_len (by decide +kernel) (pa_cons (pv 1) pa_nil)) pe_int)) (pss_one (ps_ret pe_bl)) pss_nil)
      (pss_cons (ps_if (pt_not (pt_val (pe_callB ((cr_all rfl)) (by rfl) T.z_all (by decide +kernel) (pa_cons (pe_lc (own := [("sign", 2)]) rfl sc_is_number.nd (pi_str (pv 1)) (blkOk_by (own := [("sign", 2)]) (N := ["word", "digits", "sign"]) (sc := defScope s_is_number) (by decide +kernel)) (fun _ _ _ _ _ => (pg_name (i := 2) sc_is_number.nd rfl (Or.inl rfl))) (fun _ _ _ _ _ => pts_nil) (fun _ _ _ _ _ => (pe_cmpR op_in_sign (pv 2) (pe_glob (v := .str "0123456789") (by rfl) T.g_DIGITS ⟨_, rfl⟩) (by with_unfolding_all rfl)))) pa_nil)))) (pss_one (ps_ret pe_bl)) pss_nil)
      (pss_one (ps_ret (pe_or (pe_cmpR op_eq (pv 0) pe_str (nomark _)) (pe_one (pe_cmpR op_ne (pe_ix ix_str (pv 1) pe_int (fun _ _ => rfl)) pe_str (nomark _)))))))))
, ?_⟩
    dsimp only
    refine st_tail (fun σ H' => ∃ z : Str, σ = [some (.str x), some (.str z), none] ∧ H' = H ∧ z.length ≤ 1000000 ∧ (TL.tl x = 45 :: TL.tl z ∨ ((∀ ds, TL.tl x ≠ 45 :: ds) ∧ z = x))) ?_ fun tail => ?_
    · rintro σ H1 ⟨z, rfl, rfl, zl, hz⟩
      have form := num_form hz
      refine ⟨_, rfl, z, rfl, sz_line zl, 1, _, rfl, rfl, _, rfl, ?_⟩
      by_cases h1 : (1 : Int) ≤ (z.length : Int)
      · rw [decide_eq_true h1]
        refine iteT ⟨_, _, rfl, rfl, _, rfl, ?_⟩
        by_cases h5 : (z.length : Int) ≤ 5
        · rw [decide_eq_true h5]
          refine iteF ?_
          refine ⟨_, rfl, z, rfl, fun D hD => ?_⟩
          refine lc_it (walk_str (z := z)) (fun i H' => H' = upd H1 D (.lst (((z.cps.toList.take i).map fun c => decide (c ∈ ("0123456789" : Str).cps.toList)).map V.bl))) rfl (fun _ _ _ _ => trivial) ?_ ?_
          · rintro i y H2 H3 hi rfl ⟨rfl, c, hc, rfl⟩
            have hc' : z.cps.toList[i]? = some c := by rw [Array.getElem?_toList]; exact hc
            refine ⟨rfl, yes_turn ?_⟩
            refine ⟨_, rfl, c, "0123456789", rfl, rfl, ((z.cps.toList.take i).map fun c => decide (c ∈ ("0123456789" : Str).cps.toList)).map V.bl, upd_same, ?_, ?_⟩
            · rw [List.length_map, List.length_map, List.length_take]
              have : z.cps.toList.length = z.length := by rw [Array.length_toList]; rfl
              exact lt_line (by omega)
            · rw [upd_upd, take_snoc hc', List.map_append, List.map_append]
              rfl
          · rintro H2 rfl
            have et : z.cps.toList.take z.cps.size = z.cps.toList := by rw [← Array.length_toList, List.take_length]
            rw [et]
            refine ⟨D, z.cps.toList.map fun c => decide (c ∈ ("0123456789" : Str).cps.toList), rfl, SqL.of upd_same, _, rfl, ?_⟩
            have sD := same_new (o := .lst ((z.cps.toList.map fun c => decide (c ∈ ("0123456789" : Str).cps.toList)).map V.bl)) hD
            cases hd : (z.cps.toList.map fun c => decide (c ∈ ("0123456789" : Str).cps.toList)).all id with
            | false =>
              refine iteT ?_
              refine q false _ sD ⟨fun z => Bool.noConfusion z, fun hn => ?_⟩
              have := all_dig.mpr (form.mp hn).2.1
              rw [show TL.tl z = z.cps.toList from rfl] at this
              rw [hd] at this
              cases this
            | true =>
              have hdig : NumText.AllDigits (TL.tl z) := all_dig.mp hd
              refine iteF ?_
              refine ⟨_, rfl, rfl, _, rfl, ?_⟩
              cases h0 : decide (V.str x = V.str "0") with
              | true =>
                refine iteT (q true _ sD ⟨fun _ => form.mpr ⟨⟨by omega, by omega⟩, hdig, .inl (V.str.inj (of_decide_eq_true h0))⟩, fun _ => rfl⟩)
              | false =>
                refine iteF ?_
                have x0 : x ≠ "0" := fun e => of_decide_eq_false h0 (by rw [e])
                obtain ⟨c, r, hc⟩ : ∃ c r, TL.tl z = c :: r := by
                  cases e : TL.tl z with
                  | nil => have := TL.len_tl z; rw [e] at this; simp at this; omega
                  | cons c r => exact ⟨c, r, rfl⟩
                refine ⟨_, rfl, z, 0, c, rfl, rfl, sz_line zl, ?_, rfl, ?_⟩
                · show atI (TL.tl z) 0 = some c
                  rw [hc]
                  exact atI_nat (j := 0) rfl
                · show Q (.bl (!decide (V.str (⟨#[c]⟩ : Str) = V.str "0"))) _
                  refine q _ _ sD ?_
                  have eq : V.str (⟨#[c]⟩ : Str) = V.str "0" ↔ c = 48 := by
                    constructor
                    · intro h
                      have := congrArg TL.tl (V.str.inj h)
                      rw [show TL.tl "0" = [48] from by decide +kernel] at this
                      injection this
                    · rintro rfl
                      congr 1
                  by_cases hc48 : c = 48
                  · rw [decide_eq_true (eq.mpr hc48)]
                    refine ⟨fun z => Bool.noConfusion z, fun hn => ?_⟩
                    rcases (form.mp hn).2.2 with e | e
                    · exact absurd e x0
                    · rw [hc] at e
                      exact absurd (by rw [hc48]; rfl) e
                  · rw [decide_eq_false (fun h => hc48 (eq.mp h))]
                    refine ⟨fun _ => form.mpr ⟨⟨by omega, by omega⟩, hdig, .inr ?_⟩, fun _ => rfl⟩
                    rw [hc]
                    intro h
                    exact hc48 (Option.some.inj h)
        · rw [decide_eq_false h5]
          refine iteT ?_
          refine q false _ (Same.refl _) ⟨fun z => Bool.noConfusion z, fun hn => ?_⟩
          have := (form.mp hn).1.2
          omega
      · rw [decide_eq_false h1]
        refine iteF ?_
        refine ⟨_, rfl, iteT ?_⟩
        refine q false _ (Same.refl _) ⟨fun z => Bool.noConfusion z, fun hn => ?_⟩
        have := (form.mp hn).1.1
        omega
    · refine ⟨_, rfl, rfl, x, "-", rfl, rfl, _, rfl, ?_⟩
      rw [sw_minus]
      cases e : TL.tl x with
      | nil =>
        refine iteF ?_
        exact ⟨_, rfl, tail _ _ ⟨x, rfl, rfl, hx, .inr ⟨fun ds h => (by rw [e] at h; cases h), rfl⟩⟩⟩
      | cons c r =>
        show if decide (c = 45) = true then _ else _
        by_cases hc : c = 45
        · rw [decide_eq_true hc]
          refine iteT ?_
          subst hc
          exact ⟨_, rfl, 1, rfl, x, rfl, sz_line hx, tail _ _ ⟨_, rfl, rfl, Nat.le_trans (cutS_length _ _ _) hx, .inl (by rw [cut_tail e]; exact e)⟩⟩
        · rw [decide_eq_false hc]
          refine iteF ?_
          exact ⟨_, rfl, tail _ _ ⟨x, rfl, rfl, hx, .inr ⟨fun ds h => (by rw [e] at h; injection h with h _; exact hc h), rfl⟩⟩⟩

/-- raising BadRow(i, j) -/
theorem raise_row {BR : Addr} {H : Hp} {E : XK} {i j : Int} (h : RowE BR H E i j) : ([V.int i, V.int j] : List V).length ≤ 1000 ∧ ∀ a', H a' = none →
    sp_init2 BR "row" "word" (.ref a' :: ([V.int i, V.int j] ++ [])) (upd H a' (exo a' BR none)) (fun v H2 => v = .non ∧ ∃ (d : Addr) (fs : List (Str × V)), H2 a' = some (exo a' BR (some d)) ∧ H2 d = some (exd d fs) ∧ H d = none ∧
      E (.ref BR) (some d) (upd (del H2 a') d (.xd fs))) (fun _ _ _ => False) :=
  ⟨by show 2 ≤ 1000; decide, fun a' ha' => ⟨a', .int i, .int j, rfl, upd_same, fun d hd n => ⟨rfl, d, _, (upd_ne n.symm).trans upd_same, upd_same, (upd_ne n).symm.trans hd, rowE_mk h ha' hd n⟩⟩⟩
def sp_row_form (K : PySem.W.Frag) (BR : Addr) : Sp := fun vs H Q E => ∃ (r : Int) (a : Addr) (name : Str) (least most : Nat) (ws : List Str), vs = [.int r, .ref a, .str name, .int (least : Int), .int (most : Int)] ∧ SqL K H a (strV ws) ∧ ws ≠ [] ∧
  ws.length ≤ 900000 ∧ (∀ w ∈ ws, w.length ≤ 1000000) ∧ (rowFault name least most ws = none → ∀ H', Same H H' → Q .non H') ∧ (∀ f : Nat, rowFault name least most ws = some f → RowE BR H E r (f : Int))
theorem ok_need_row_form (T : Txt K mg) : FnOk P w K mg base (L2.CX P w) 5 T.f__need_row_form T.d__need_row_form ["row", "words", "name", "least", "most"] (sp_row_form K T.C_BadRow) := by
  refine T.F__need_row_form.okX sc_need_row_form (fun vs H Q E h => ?_) (fun cdv A outer s H vs Q E hr h => ?_)
  · obtain ⟨r, a, name, least, most, ws, rfl, _⟩ := h
    rfl
  · obtain ⟨r, a, name, least, most, ws, rfl, hw, hne, hl, hwl, q1, q2⟩ := h
    have wl : (strV ws).length = ws.length := List.length_map ..
    refine ⟨_,
(pss_cons (ps_expr (pe_call (ok_need_no_empty_word T) (hr.mono (by decide)) (by rfl) T.g__need_no_empty_word T.F__need_no_empty_word.kp T.b__need_no_empty_word .nil (passes_call (takes_of rfl rfl rfl rfl) (fun _ _ _ _ h => h)) (pa_cons (pv 0) (pa_cons (pv 1) pa_nil))))
      (pss_cons (ps_if (pt_cmpR op_ne (pe_ix ix_list (pv 1) pe_int (fun _ _ => rfl)) (pv 2) (nomark _)) (pss_one (ps_raise rfl (takes_of rfl rfl rfl rfl) (pmk_oex T.o_BadRow T.i_BadRow T.t_BadRow (oki_BadRow T) (hr.mono (by decide)) T.bi_BadRow .nil pass0 (by rfl) T.g_BadRow (pa_cons (pv 0) (pa_cons pe_int pa_nil))))) pss_nil)
      (pss_cons (ps_for (passes_of rfl) rfl (pi_range2 (by rfl) T.z_range (pa_cons pe_int (pa_cons (pe_callB (call_len_seq) (by rfl) T.z_len (by decide +kernel) (pa_cons (pv 1) pa_nil)) pa_nil))) (pg_name (i := 5) sc_need_row_form.nd rfl (Or.inl rfl)) (pss_one (ps_if (PW.pt (pw_or (pt_cmpR op_gt (pv 5) (pv 4) (nomark _)) (pw_or1 (pt_not (pt_val (pe_call (ok_is_number T) (hr.mono (by decide)) (by rfl) T.g__is_number T.F__is_number.kp T.b__is_number .nil pass0 (pa_cons (pe_ix ix_list (pv 1) (pv 5) (fun _ _ => rfl)) pa_nil))))))) (pss_one (ps_raise rfl (takes_of rfl rfl rfl rfl) (pmk_oex T.o_BadRow T.i_BadRow T.t_BadRow (oki_BadRow T) (hr.mono (by decide)) T.bi_BadRow .nil pass0 (by rfl) T.g_BadRow (pa_cons (pv 0) (pa_cons (pe_op op_add (pv 5) pe_int) pa_nil))))) pss_nil)))
      (pss_one (ps_if (pt_cmpR op_le (pe_callB (call_len_seq) (by rfl) T.z_len (by decide +kernel) (pa_cons (pv 1) pa_nil)) (pv 3) (nomark _)) (pss_one (ps_raise rfl (takes_of rfl rfl rfl rfl) (pmk_oex T.o_BadRow T.i_BadRow T.t_BadRow (oki_BadRow T) (hr.mono (by decide)) T.bi_BadRow .nil pass0 (by rfl) T.g_BadRow (pa_cons (pv 0) (pa_cons (pe_op op_add (pe_callB (call_len_seq) (by rfl) T.z_len (by decide +kernel) (pa_cons (pv 1) pa_nil)) pe_int) pa_nil))))) pss_nil)))))
, ?_⟩
    refine ⟨_, rfl, _, rfl, r, a, ws, rfl, hw, fun h0 => ?_, fun h0 => q2 0 (fault_0 h0)⟩
    obtain ⟨w0, ws', rfl⟩ : ∃ w0 ws', ws = w0 :: ws' := by
      cases ws with
      | nil => exact absurd rfl hne
      | cons w0 r => exact ⟨w0, r, rfl⟩
    refine ⟨_, rfl, a, _, 0, .str w0, rfl, rfl, hw, atI_nat (j := 0) rfl, _, rfl, rfl, _, rfl, ?_⟩
    show if (!decide (V.str w0 = V.str name)) = true then _ else _
    by_cases h1 : V.str w0 = V.str name
    case neg =>
      rw [decide_eq_false h1]
      refine iteT ?_
      exact ⟨_, rfl, raise_row (q2 1 (fault_1 h0 h1))⟩
    rw [decide_eq_true h1]
    refine iteF ?_
    refine ⟨_, rfl, a, _, rfl, .inl hw, _, _, rfl, ⟨by decide, by decide, by omega, by omega⟩, ?_⟩
    refine for_range (lo := 1) (n := (((strV (w0 :: ws')).length : Int) - 1).toNat) (fun i σ H' => ∃ y, σ = [some (.int r), some (.ref a), some (.str name), some (.int (least : Int)), some (.int (most : Int)), y] ∧ Same H H' ∧ ∀ j, j < i + 1 → badB most (w0 :: ws') j = false)
      ⟨none, rfl, Same.refl H, fun j hj => by
        have : j = 0 := by omega
        subst this
        rfl⟩ ?_ ?_
    · rintro i σ H1 hi ⟨y, rfl, s1, hall⟩
      have hi' : i < ws'.length := by
        rw [wl, List.length_cons] at hi
        omega
      have hw1 := s1.seq hw
      have hg : (w0 :: ws')[i + 1]? = some (ws'[i]'hi') := by
        rw [List.getElem?_cons_succ]
        exact List.getElem?_eq_getElem hi'
      have hb : badB most (w0 :: ws') (i + 1) = (decide (most < i + 1) || !numB (ws'[i]'hi')) := by
        unfold badB
        rw [decide_eq_true (by omega), Bool.true_and, getD_of hg]
      have hlt : i + 1 < (w0 :: ws').length := by rw [List.length_cons]; omega
      have raise : ∀ H2, Same H H2 → badB most (w0 :: ws') (i + 1) = true → RowE T.C_BadRow H2 E r (1 + (i : Int) + 1) := fun H2 s2 hb => by
        have := (q2 _ (fault_n h0 h1 hlt hb hall)).same s2
        rw [show (((i + 1 + 1 : Nat)) : Int) = 1 + (i : Int) + 1 by omega] at this
        exact this
      refine ⟨_, rfl, _, rfl, _, _, rfl, rfl, _, rfl, ?_⟩
      by_cases hm : (most : Int) < 1 + (i : Int)
      · rw [decide_eq_true hm]
        refine iteT (iteT ?_)
        refine ⟨_, rfl, _, rfl, _, _, rfl, rfl, raise_row (raise H1 s1 ?_)⟩
        rw [hb, decide_eq_true (by omega)]
        rfl
      · rw [decide_eq_false hm]
        refine iteF ?_
        refine ⟨_, rfl, _, rfl, a, _, 1 + (i : Int), .str (ws'[i]'hi'), rfl, rfl, hw1, ?_, ws'[i]'hi', rfl, hwl _ (List.mem_cons_of_mem _ (List.getElem_mem hi')), fun b H2 s2 hbn => ⟨_, rfl, ?_⟩⟩
        · rw [show 1 + (i : Int) = ((i + 1 : Nat) : Int) by omega]
          exact atI_nat (get_map hg)
        have hbn : b = numB (ws'[i]'hi') := by
          rw [← numB_iff] at hbn
          cases b <;> cases e : numB (ws'[i]'hi') <;> simp [e] at hbn ⊢
        rw [decide_eq_false (by omega), Bool.false_or, ← hbn] at hb
        cases b with
        | true =>
          refine iteF ?_
          refine ⟨_, rfl, s1.trans s2, fun j hj => ?_⟩
          by_cases e : j = i + 1
          · rw [e]; exact hb
          · exact hall j (by omega)
        | false =>
          refine iteT ?_
          exact ⟨_, rfl, _, rfl, _, _, rfl, rfl, raise_row (raise H2 (s1.trans s2) hb)⟩
    · rintro σ H1 ⟨y, rfl, s1, hall⟩
      have hall : ∀ j, j < (w0 :: ws').length → badB most (w0 :: ws') j = false := fun j hj => hall j (by rw [wl]; omega)
      have hf := fault_l (least := least) h0 h1 hall
      refine ⟨_, rfl, a, _, rfl, .inl (s1.seq hw), _, rfl, _, _, rfl, rfl, _, rfl, ?_⟩
      by_cases h2 : (w0 :: ws').length ≤ least
      · rw [decide_eq_true (show ((strV (w0 :: ws')).length : Int) ≤ (least : Int) by rw [wl]; omega)]
        refine iteT ?_
        rw [if_pos h2] at hf
        refine ⟨_, rfl, _, rfl, a, _, rfl, .inl (s1.seq hw), _, _, rfl, rfl, ?_⟩
        have := (q2 _ hf).same s1
        rw [show ((((w0 :: ws').length + 1 : Nat)) : Int) = ((strV (w0 :: ws')).length : Int) + 1 by rw [wl]; omega] at this
        exact raise_row this
      · rw [decide_eq_false (show ¬ ((strV (w0 :: ws')).length : Int) ≤ (least : Int) by rw [wl]; omega)]
        refine iteF ?_
        rw [if_neg h2] at hf
        exact q1 hf H1 s1
end
end My

set_option pp.maxSteps 1500
namespace My
open PySem PySem.Spec PyProof.Rows L2
/-! ### a text's rows: lengths -/
theorem splS_sum {s : Nat} : ∀ (l acc : List Nat), ((TL.spl [s] 0 acc l).map fun p => p.length + 1).sum = acc.length + l.length + 1
  | [], acc => by
    rw [TL.spl_nil]
    show acc.length + 1 + 0 = _
    rfl
  | c :: r, acc => by
    cases h : TL.pre [s] (c :: r) with
    | true =>
      rw [TL.spl_hit h]
      have := splS_sum (s := s) r []
      show acc.length + 1 + ((TL.spl [s] 0 [] r).map fun p => p.length + 1).sum = _
      rw [this, List.length_cons, List.length_nil]
      omega
    | false =>
      rw [TL.spl_miss h, splS_sum r (acc ++ [c]), List.length_append, List.length_cons, List.length_cons, List.length_nil]
      omega
theorem lines_tl (x : Str) : (Txt.split x "\n").map TL.tl = TL.spl [10] 0 [] (TL.tl x) := by
  have h := TL.split_spl x "\n" (by rw [tl_lf]; exact List.cons_ne_nil _ _) (TL.kind_ok (by decide +kernel))
  rw [tl_lf] at h
  exact h
theorem lines_sum (x : Str) : lenS (Txt.split x "\n") = x.length + 1 := by
  have h := splS_sum (s := 10) (TL.tl x) []
  rw [← lines_tl, List.map_map] at h
  unfold lenS
  have e : ((fun p : List Nat => p.length + 1) ∘ TL.tl) = fun w : Str => w.length + 1 := by
    funext w
    show (TL.tl w).length + 1 = w.length + 1
    rw [TL.len_tl]
  rw [e, List.length_nil, ← TL.len_tl] at h
  rw [h]
  omega
theorem lines_ne (x : Str) : Txt.split x "\n" ≠ [] := fun e => by
  have h := lines_sum x
  rw [e] at h
  have : lenS [] = 0 := rfl
  omega
theorem lines_count (x : Str) : (Txt.split x "\n").length ≤ x.length + 1 := by
  have := lenS_count (Txt.split x "\n")
  rw [lines_sum] at this
  exact this
theorem lines_mem {x r : Str} (h : r ∈ Txt.split x "\n") : r.length ≤ x.length + 1 := by
  have := lenS_mem h
  rw [lines_sum] at this
  exact this
theorem words_mem {x w : Str} (h : w ∈ Txt.split x " ") : w.length ≤ x.length + 1 := by
  have := lenS_mem h
  rw [split_sum] at this
  exact this
theorem joinS_sum {s : Nat} : ∀ ps : List (List Nat), (TL.joinL [s] ps).length ≤ (ps.map fun p => p.length + 1).sum
  | [] => Nat.zero_le _
  | [p] => by
    show p.length ≤ p.length + 1 + 0
    omega
  | p :: q :: r => by
    have := joinS_sum (s := s) (q :: r)
    show (p ++ ([s] ++ TL.joinL [s] (q :: r))).length ≤ p.length + 1 + ((q :: r).map fun p => p.length + 1).sum
    rw [List.length_append, List.length_append]
    have e : ([s] : List Nat).length = 1 := rfl
    omega
theorem text_sum (ws : List Str) : (textT ws).length ≤ lenS ws := by
  unfold textT
  rw [TL.join_eq, TL.len_tl, TL.tl_join, tl_lf]
  have h := joinS_sum (s := 10) (ws.map TL.tl)
  rw [List.map_map] at h
  have e : ((fun p : List Nat => p.length + 1) ∘ TL.tl) = fun w : Str => w.length + 1 := by
    funext w
    show (TL.tl w).length + 1 = w.length + 1
    rw [TL.len_tl]
  rw [e] at h
  exact h
section
variable {P : Program} {w : World} {K : PySem.W.Frag} {mg : Str → Option Value} {base : Heap}
def sp_coder_row (K : PySem.W.Frag) (BR : Addr) : Sp := fun vs H Q E => ∃ (k : Nat) (a : Addr) (ws : List Str), vs = [.int (k : Int), .ref a] ∧ SqL K H a (strV ws) ∧ ws ≠ [] ∧
  ws.length ≤ 100000 ∧ (∀ w ∈ ws, w.length ≤ 1000000) ∧ (rowFk k ws = none → ∀ H', Same H H' → Q .non H') ∧ (∀ f : Nat, rowFk k ws = some f → RowE BR H E ((k : Int) + 1) (f : Int))
theorem ok_need_coder_row (T : Txt K mg) : FnOk P w K mg base (L2.CX P w) 6 T.f__need_coder_row T.d__need_coder_row ["index", "words"] (sp_coder_row K T.C_BadRow) := by
  refine T.F__need_coder_row.okX sc_need_coder_row (fun vs H Q E h => ?_) (fun cdv A outer s H vs Q E hr h => ?_)
  · obtain ⟨k, a, ws, rfl, _⟩ := h
    rfl
  · obtain ⟨k, a, ws, rfl, hw, hne, hl, hwl, q1, q2⟩ := h
    have wl : (strV ws).length = ws.length := List.length_map ..
    refine ⟨_,
(pss_one (ps_if (pt_cmpR op_eq (pv 0) pe_int (nomark _)) (pss_one (ps_expr (pe_call (ok_need_row_form T) (hr.mono (by decide)) (by rfl) T.g__need_row_form T.F__need_row_form.kp T.b__need_row_form .nil (passes_call (takes_of rfl rfl rfl rfl) (fun _ _ _ _ h => h)) (pa_cons (pe_op op_add (pv 0) pe_int) (pa_cons (pv 1) (pa_cons pe_str (pa_cons pe_int (pa_cons pe_int pa_nil)))))))) (pss_one (ps_if (pt_cmpR op_eq (pv 0) pe_int (nomark _)) (pss_one (ps_expr (pe_call (ok_need_row_form T) (hr.mono (by decide)) (by rfl) T.g__need_row_form T.F__need_row_form.kp T.b__need_row_form .nil (passes_call (takes_of rfl rfl rfl rfl) (fun _ _ _ _ h => h)) (pa_cons (pe_op op_add (pv 0) pe_int) (pa_cons (pv 1) (pa_cons pe_str (pa_cons pe_int (pa_cons (pe_callB (call_len_seq) (by rfl) T.z_len (by decide +kernel) (pa_cons (pv 1) pa_nil)) pa_nil)))))))) (pss_one (ps_expr (pe_call (ok_need_row_form T) (hr.mono (by decide)) (by rfl) T.g__need_row_form T.F__need_row_form.kp T.b__need_row_form .nil (passes_call (takes_of rfl rfl rfl rfl) (fun _ _ _ _ h => h)) (pa_cons (pe_op op_add (pv 0) pe_int) (pa_cons (pv 1) (pa_cons pe_str (pa_cons pe_int (pa_cons pe_int pa_nil))))))))))))
, ?_⟩
    refine ⟨_, rfl, rfl, _, rfl, ?_⟩
    show if decide (V.int (k : Int) = V.int 0) = true then _ else _
    by_cases h0 : k = 0
    · subst h0
      rw [show decide (V.int ((0 : Nat) : Int) = V.int 0) = true from decide_eq_true rfl]
      refine iteT ?_
      exact ⟨_, rfl, _, _, rfl, rfl, _, rfl, _, a, "levels", 3, 3, ws, rfl, hw, hne, by omega, hwl, fun h H' s => q1 h H' s, fun f h => q2 f h⟩
    · rw [decide_eq_false (fun z => h0 (by have := V.int.inj z; omega) : ¬ V.int (k : Int) = V.int 0)]
      refine iteF ?_
      refine ⟨_, rfl, rfl, _, rfl, ?_⟩
      show if decide (V.int (k : Int) = V.int 1) = true then _ else _
      by_cases h1 : k = 1
      · subst h1
        rw [show decide (V.int ((1 : Nat) : Int) = V.int 1) = true from decide_eq_true rfl]
        refine iteT ?_
        have e : rowFault "steps" 1 (strV ws).length ws = rowFk 1 ws := by
          rw [wl]
          exact fault_most (Nat.le_refl _) hl
        exact ⟨_, rfl, _, _, rfl, rfl, _, rfl, _, rfl, a, _, rfl, .inl hw, _, a, "steps", 1, (strV ws).length, ws, rfl, hw, hne, by omega, hwl, fun h H' s => q1 (e.symm.trans h) H' s, fun f h => q2 f (e.symm.trans h)⟩
      · rw [decide_eq_false (fun z => h1 (by have := V.int.inj z; omega) : ¬ V.int (k : Int) = V.int 1)]
        refine iteF ?_
        have e : rowFault "move" 2 2 ws = rowFk k ws := by
          unfold rowFk rowName rowLeast rowMost
          rw [if_neg h0, if_neg h1, if_neg h0, if_neg h1, if_neg h0, if_neg h1]
        exact ⟨_, rfl, _, _, rfl, rfl, _, rfl, _, a, "move", 2, 2, ws, rfl, hw, hne, by omega, hwl, fun h H' s => q1 (e.symm.trans h) H' s, fun f h => q2 f (e.symm.trans h)⟩
/-- words that are numbers behind the first -/
def Nums (ws : List Str) : Prop := (∀ i w, 1 ≤ i → ws[i]? = some w → numB w = true) ∧ 1 ≤ ws.length ∧ ws.length ≤ 100000
theorem nums_take {ws : List Str} {i : Nat} {w : Str} (h : (ws.drop 1)[i]? = some w) : (numsOf ws).take (i + 1) = (numsOf ws).take i ++ [numOf w] := by
  unfold numsOf
  exact take_snoc (get_map h)
theorem ok_numbers_of (T : Txt K mg) : FnOk P w K mg base CX0 2 T.f__numbers_of T.d__numbers_of ["words"]
    (fun vs H Q _ => ∃ (a : Addr) (ws : List Str), vs = [.ref a] ∧ SqL K H a (strV ws) ∧ Nums ws ∧ ∀ p H', Same H H' → H p = none → H' p = some (.tup ((numsOf ws).map V.int)) → Q (.ref p) H') := by
  refine T.F__numbers_of.ok sc_numbers_of (fun vs H Q E h => ?_) (fun cdv A outer s H vs Q E hr h => ?_)
  · obtain ⟨a, ws, rfl, _⟩ := h
    rfl
  · obtain ⟨a, ws, rfl, hw, ⟨hn, h1, hl⟩, q⟩ := h
    refine ⟨_,
(pss_one (ps_ret (pe_callTy call_tuple_of (by rfl) T.z_tuple (by decide +kernel) (pa_cons (pe_lc (own := [("word", 1)]) rfl sc_numbers_of.nd (pi_list (pe_slice sl_list (pv 0) (po_some pe_int) po_none)) (blkOk_by (own := [("word", 1)]) (N := ["words", "word"]) (sc := defScope s_numbers_of) (by decide +kernel)) (fun _ _ _ _ _ => (pg_name (i := 1) sc_numbers_of.nd rfl (Or.inl rfl))) (fun _ _ _ _ _ => pts_nil) (fun _ _ _ _ _ => (pe_callTy call_int_str (by rfl) T.z_int (by decide +kernel) (pa_cons (pv 1) pa_nil)))) pa_nil))))
, ?_⟩
    refine ⟨_, rfl, 1, rfl, a, _, rfl, hw, fun L hL => ?_⟩
    have e1 : cutV (strV ws) (some 1) none = strV (ws.drop 1) := by
      rw [show cutV (strV ws) (some 1) none = (strV ws).drop 1 from cut_drop (n := 1) (by unfold strV; rw [List.length_map]; omega)]
      exact List.map_drop.symm
    rw [e1]
    have s1 := same_new (o := .lst (strV (ws.drop 1))) hL
    have hL1 : (upd H L (.lst (strV (ws.drop 1)))) L = some (.lst (strV (ws.drop 1))) := upd_same
    generalize upd H L (.lst (strV (ws.drop 1))) = H1 at s1 hL1
    refine ⟨L, rfl, ⟨_, SqL.of hL1⟩, fun D hD => ?_⟩
    refine lc_list (K := K) (a := L) (xs := strV (ws.drop 1)) (fun i H' => H' = upd H1 D (.lst (((numsOf ws).take i).map V.int))) rfl ?_ ?_ ?_
    · rintro i H' _ rfl
      exact (same_new hD).seq (SqL.of hL1)
    · rintro i v H' hv rfl
      obtain ⟨w, hz, rfl⟩ := map_get hv
      have hz' : ws[1 + i]? = some w := by rw [List.getElem?_drop] at hz; exact hz
      obtain ⟨n, hb, rfl, h3, h4⟩ := num_at (hn _ _ (by omega) hz')
      refine ⟨rfl, yes_turn ?_⟩
      refine ⟨_, rfl, sI n, n, rfl, h4, by have := sI_len hb; omega, _, upd_same, ?_, ?_⟩
      · have hi := (List.getElem?_eq_some_iff.mp hz').1
        rw [List.length_map, List.length_take]
        exact lt_line (by omega)
      · rw [upd_upd, nums_take hz, h3, List.map_append]
        rfl
    · rintro H' rfl
      rw [show (numsOf ws).take (strV (ws.drop 1)).length = numsOf ws from List.take_of_length_le (by unfold strV numsOf; rw [List.length_map, List.length_map]; exact Nat.le_refl _)]
      have s2 := same_new (o := .lst ((numsOf ws).map V.int)) hD
      refine ⟨D, _, rfl, .inl ⟨SqL.of upd_same, fun t ht => ?_⟩⟩
      exact q t _ ((s1.trans s2).trans (same_new ht)) ((s1.trans s2).free ht) upd_same
/-- the rows' words as lists, at ps -/
structure RowsAt (W : List (List Str)) (H : Hp) (ps : List Addr) (k : Nat) : Prop where
  len : ps.length = k
  st : ∀ (i : Nat) (p : Addr) (ws : List Str), ps[i]? = some p → W[i]? = some ws → H p = some (.lst (strV ws))
theorem RowsAt.same {W : List (List Str)} {H H' : Hp} {ps : List Addr} {k : Nat} (h : RowsAt W H ps k) (s : Same H H') : RowsAt W H' ps k := ⟨h.len, fun i p ws a b => s _ _ (h.st i p ws a b)⟩
theorem row_nums {k : Nat} {ws : List Str} (h : rowFk k ws = none) (hl : ws.length ≤ 100000) : Nums ws := by
  obtain ⟨a, b, _⟩ := row_good h
  exact ⟨a, by omega, hl⟩
def sp_read_coder (K : PySem.W.Frag) (BR BC : Addr) : Sp := fun vs H Q E => ∃ (x : V) (r : Option Str), vs = [x] ∧ ThS K H x r ∧ (∀ t, r = some t → t.length ≤ 90000) ∧
  (∀ t, r = some t → txtF (rowsOf t) = none → firstF (codOf (rowsOf t)).dat = .none → ∀ z H', Same H H' → Dp K H' z (codOf (rowsOf t)).dat → Q z H') ∧
  (r = none → RowE BR H E 0 0) ∧ (∀ t i j, r = some t → txtF (rowsOf t) = some (i, j) → RowE BR H E i j) ∧
  (∀ t, r = some t → txtF (rowsOf t) = none → ∀ y z, FltV (firstF (codOf (rowsOf t)).dat) y z → TwoE BC "part" "number" H E y z)
set_option maxHeartbeats 4000000 in
theorem ok_read_coder (T : Txt K mg) : FnOk P w K mg base (L2.CX P w) 7 T.f_read_coder T.d_read_coder ["text"] (sp_read_coder K T.C_BadRow T.C_BadCoder) := by
  refine T.F_read_coder.okX sc_read_coder (fun vs H Q E h => ?_) (fun cdv A outer s H vs Q E hr h => ?_)
  · obtain ⟨x, r, rfl, _⟩ := h
    rfl
  · obtain ⟨x, r, rfl, hx, hlen, q1, q2, q3, q4⟩ := h
    refine ⟨_,
(pss_cons (ps_expr (pe_call (ok_need_text T) (hr.mono (by decide)) (by rfl) T.g__need_text T.F__need_text.kp T.b__need_text .nil (passes_call (takes_of rfl rfl rfl rfl) (fun _ _ _ _ h => h)) (pa_cons (pv 0) pa_nil)))
      (pss_cons (ps_setLc (i := 1) (own := [("row", 9)]) rfl sc_read_coder.nd rfl rfl (sw_true rfl rfl rfl (by decide +kernel)) (pi_list (pe_bm PySem.F.plainAttrs_str PySem.F.slot_str_split PySem.F.type_str_split mt_split (pv 0) (pa_cons pe_str pa_nil))) (blkOk_by (own := [("row", 9)]) (N := ["text", "rows", "index", "words", "low", "high", "fade", "steps", "moves", "row"]) (sc := defScope s_read_coder) (by decide +kernel)) (fun _ _ _ _ _ => (pg_name (i := 9) sc_read_coder.nd rfl (Or.inl rfl))) (fun _ _ _ _ _ => pts_nil) (fun _ _ _ _ _ => (My.pe_bmK (K := K) PySem.F.plainAttrs_str PySem.F.slot_str_split PySem.F.type_str_split mt_split (pv 9) (pa_cons pe_str pa_nil))))
      (pss_cons (ps_for (passes_of rfl) rfl (pi_enum (by rfl) T.z_enumerate (pa_cons (pv 1) pa_nil)) (pg_tup (by rfl) (pgs_cons (pg_name (i := 2) sc_read_coder.nd rfl (Or.inl rfl)) (pgs_cons (pg_name (i := 3) sc_read_coder.nd rfl (Or.inl rfl)) pgs_nil))) (pss_one (ps_expr (pe_call (ok_need_coder_row T) (hr.mono (by decide)) (by rfl) T.g__need_coder_row T.F__need_coder_row.kp T.b__need_coder_row .nil (passes_call (takes_of rfl rfl rfl rfl) (fun _ _ _ _ h => h)) (pa_cons (pv 2) (pa_cons (pv 3) pa_nil))))))
      (pss_cons (ps_if (pt_cmpR op_lt (pe_callB (call_len_seq) (by rfl) T.z_len (by decide +kernel) (pa_cons (pv 1) pa_nil)) pe_int (nomark _)) (pss_one (ps_raise rfl (takes_of rfl rfl rfl rfl) (pmk_oex T.o_BadRow T.i_BadRow T.t_BadRow (oki_BadRow T) (hr.mono (by decide)) T.bi_BadRow .nil pass0 (by rfl) T.g_BadRow (pa_cons pe_int (pa_cons pe_int pa_nil))))) pss_nil)
      (pss_cons (ps_asg (pe_call (ok_numbers_of T) (hr.mono (by decide)) (by rfl) T.g__numbers_of T.F__numbers_of.kp T.b__numbers_of .nil pass0 (pa_cons (pe_ix ix_list (pv 1) pe_int (fun _ _ => rfl)) pa_nil)) (pg_tup (by rfl) (pgs_cons (pg_name (i := 4) sc_read_coder.nd rfl (Or.inl rfl)) (pgs_cons (pg_name (i := 5) sc_read_coder.nd rfl (Or.inl rfl)) (pgs_cons (pg_name (i := 6) sc_read_coder.nd rfl (Or.inl rfl)) pgs_nil)))))
      (pss_cons (ps_set (i := 7) sc_read_coder.nd rfl (Or.inl rfl) (pe_call (ok_numbers_of T) (hr.mono (by decide)) (by rfl) T.g__numbers_of T.F__numbers_of.kp T.b__numbers_of .nil pass0 (pa_cons (pe_ix ix_list (pv 1) pe_int (fun _ _ => rfl)) pa_nil)))
      (pss_cons (ps_set (i := 8) sc_read_coder.nd rfl (Or.inl rfl) (pe_callTy call_tuple_of (by rfl) T.z_tuple (by decide +kernel) (pa_cons (pe_lc (own := [("words", 3)]) rfl sc_read_coder.nd (pi_list (pe_slice sl_list (pv 1) (po_some pe_int) po_none)) (blkOk_by (own := [("words", 3)]) (N := ["text", "rows", "index", "words", "low", "high", "fade", "steps", "moves", "row"]) (sc := defScope s_read_coder) (by decide +kernel)) (fun _ _ _ _ _ => (pg_name (i := 3) sc_read_coder.nd rfl (Or.inl rfl))) (fun _ _ _ _ _ => pts_nil) (fun _ _ _ _ _ => (pe_call (ok_numbers_of T) (hr.mono (by decide)) (by rfl) T.g__numbers_of T.F__numbers_of.kp T.b__numbers_of .nil pass0 (pa_cons (pv 3) pa_nil)))) pa_nil)))
      (pss_one (ps_ret (pe_call (ok_need_coder T) (hr.mono (by decide)) (by rfl) T.g_need_coder T.F_need_coder.kp T.b_need_coder .nil (passes_call (takes_of rfl rfl rfl rfl) (fun _ _ _ _ h => h)) (pa_cons (pe_tup (pa_cons (pv 4) (pa_cons (pv 5) (pa_cons (pv 7) (pa_cons (pv 8) (pa_cons (pv 6) pa_nil)))))) pa_nil)))))))))))
, ?_⟩
    refine ⟨x, rfl, x, r, rfl, hx, fun t ht => ?_, fun h0 => q2 h0⟩
    subst ht
    obtain rfl : x = .str t := hx
    have hlen := hlen t rfl
    have q1 := q1 t rfl
    have q3 := fun i j => q3 t i j rfl
    have q4 := q4 t rfl
    have wlen : ∀ r ∈ Txt.split t "\n", (Txt.split r " ").length ≤ 100000 ∧ ∀ w ∈ Txt.split r " ", w.length ≤ 1000000 := fun r hr => by
      have h1 := lines_mem hr
      have h2 := split_count r
      exact ⟨by omega, fun w hw => by have := words_mem hw; omega⟩
    have hlc := lines_count t
    -- rows
    refine ⟨_, rfl, rfl, t, "\n", rfl, rfl, by decide +kernel, by show t.length + 2 ≤ sizeLine; exact sz_line (by omega), fun L hL => ?_⟩
    have s1 := same_new (o := .lst ((Txt.split t "\n").map V.str)) hL
    have hL1 : (upd H L (.lst ((Txt.split t "\n").map V.str))) L = some (.lst ((Txt.split t "\n").map V.str)) := upd_same
    generalize upd H L (.lst ((Txt.split t "\n").map V.str)) = H1 at s1 hL1
    have hrow : ∀ r ∈ Txt.split t "\n", r.length ≤ 90001 := fun r hr => by have := lines_mem hr; omega
    have hW : rowsOf t = (Txt.split t "\n").map fun r => Txt.split r " " := rfl
    generalize Txt.split t "\n" = ls at hL1 wlen hlc hrow hW
    generalize rowsOf t = W at q1 q3 q4 hW
    have hWl : W.length = ls.length := by rw [hW, List.length_map]
    have hWat : ∀ {i : Nat} {ws : List Str}, W[i]? = some ws → ws.length ≤ 100000 ∧ (∀ w ∈ ws, w.length ≤ 1000000) ∧ ws ≠ [] := fun {i ws} h => by
      rw [hW] at h
      obtain ⟨r, hr, rfl⟩ := map_get h
      exact ⟨(wlen r (get_mem hr)).1, (wlen r (get_mem hr)).2, split_ne r⟩
    refine ⟨L, rfl, ⟨_, SqL.of hL1⟩, fun D hD => ?_⟩
    refine lc_list (K := K) (a := L) (xs := ls.map V.str) (fun i H' => ∃ ps : List Addr, H' D = some (.lst (ps.map V.ref)) ∧ RowsAt W H' ps i ∧ (∀ p ∈ ps, p ≠ D) ∧ Same H1 H')
      ⟨[], upd_same, ⟨rfl, fun i p ws a _ => by cases i <;> cases a⟩, fun p hp => (by cases hp), same_new hD⟩ ?_ ?_ ?_
    · rintro i H' _ ⟨ps, _, _, _, s2⟩
      exact (s2.seq (SqL.of hL1))
    · rintro i v H' hv ⟨ps, hps, rows, ne, s2⟩
      obtain ⟨r, hr, rfl⟩ := map_get hv
      have hi : i < ls.length := (List.getElem?_eq_some_iff.mp hr).1
      have hws : W[i]? = some (Txt.split r " ") := by rw [hW]; exact get_map hr
      refine ⟨rfl, yes_turn ?_⟩
      refine ⟨_, rfl, rfl, r, " ", rfl, rfl, by decide +kernel, by have := hrow r (get_mem hr); show r.length + 2 ≤ sizeLine; exact sz_line (by omega), fun p hp => ?_⟩
      have s3 := same_new (o := .lst ((Txt.split r " ").map V.str)) hp
      have npD : p ≠ D := (ne_of_none hps hp).symm
      refine ⟨ps.map V.ref, s3 _ _ hps, ?_, ps ++ [p], ?_, ⟨?_, ?_⟩, ?_, ?_⟩
      · rw [List.length_map, rows.len]
        exact lt_line (by omega)
      · rw [upd_same, List.map_append]
        rfl
      · rw [List.length_append, rows.len]
        rfl
      · intro j p' ws' hp' hws'
        by_cases hj : j < i
        · rw [List.getElem?_append_left (by rw [rows.len]; exact hj)] at hp'
          rw [upd_ne (ne p' (get_mem hp'))]
          exact s3 _ _ (rows.st j p' ws' hp' hws')
        · have hj2 : j < (ps ++ [p]).length := (List.getElem?_eq_some_iff.mp hp').1
          rw [List.length_append, rows.len] at hj2
          have e : j = i := by
            have : j < i + 1 := hj2
            omega
          subst e
          rw [List.getElem?_append_right (by rw [rows.len]; exact Nat.le_refl _), rows.len, Nat.sub_self] at hp'
          cases hp'
          rw [hws] at hws'
          cases hws'
          rw [upd_ne npD]
          exact upd_same
      · intro p' hp'
        rcases List.mem_append.mp hp' with e | e
        · exact ne p' e
        · rw [List.mem_singleton.mp e]; exact npD
      · intro b x e
        rw [upd_ne (ne_of_none e hD)]
        exact (s2.trans s3) b x e
    rintro H2 ⟨ps, hps, rows, _, s2⟩
    rw [show (ls.map V.str).length = W.length by rw [List.length_map, hWl]] at rows
    have s12 := s1.trans s2
    -- the rows' forms
    refine ⟨_, rfl, D, _, rfl, SqL.of hps, ?_⟩
    refine for_it (walk_enum (K := K) (a := D) (xs := ps.map V.ref)) (fun i σ H' => ∃ y2 y3, σ = [some (.str t), some (.ref D), y2, y3, none, none, none, none, none, none] ∧ Same H2 H' ∧ ∀ j ws, j < i → W[j]? = some ws → rowFk j ws = none) ⟨none, none, rfl, Same.refl H2, fun j ws hj => by omega⟩ ?_ ?_ ?_
    · rintro i σ H' _ ⟨_, _, _, s3, _⟩
      exact s3.seq (SqL.of hps)
    · rintro i x σ H3 H3' hi ⟨y2, y3, rfl, s3, hall⟩ ⟨T', x', y', rfl, hT, rfl, hx, hy⟩
      cases Option.some.inj hx
      obtain ⟨p, hp, rfl⟩ := map_get hy
      have hiw : i < W.length := by rw [List.length_map, rows.len] at hi; exact hi
      have hWi : W[i]? = some (W[i]'hiw) := List.getElem?_eq_getElem hiw
      obtain ⟨l1, l2, l3⟩ := hWat hWi
      have hpw := rows.st i p _ hp hWi
      have s4 := s3.trans (same_new (o := .tup [V.int (i : Nat), V.ref p]) hT)
      refine ⟨T', _, rfl, upd_tup, rfl, _, _, rfl, _, _, rfl, rfl, ?_⟩
      refine ⟨_, rfl, _, rfl, i, p, _, rfl, SqL.of (s4 _ _ hpw), l3, l1, l2, fun hf H5 s5 => ⟨_, _, rfl, s4.trans s5, fun j ws hj hw => ?_⟩, fun f hf => (q3 _ _ (txtF_bad hWi hf hall)).same (s12.trans s4)⟩
      by_cases e : j = i
      · subst e
        rw [hWi] at hw
        cases hw
        exact hf
      · exact hall j ws (by omega) hw
    rintro σ H3 ⟨y2, y3, rfl, s3, hall⟩
    have pl : (ps.map V.ref).length = W.length := by rw [List.length_map, rows.len]
    have hall : ∀ j ws, W[j]? = some ws → rowFk j ws = none := fun j ws hw => hall j ws (by rw [pl]; exact (List.getElem?_eq_some_iff.mp hw).1) hw
    have hD3 := s3 _ _ hps
    have rows3 := rows.same s3
    have hok := txtF_ok hall
    have s13 := s12.trans s3
    refine ⟨_, rfl, D, _, rfl, .inl (SqL.of hD3), _, _, rfl, rfl, _, rfl, ?_⟩
    by_cases h2 : W.length < 2
    · rw [decide_eq_true (show ((ps.map V.ref).length : Int) < 2 by rw [pl]; omega)]
      refine iteT ?_
      exact raise_row ((q3 2 0 (by rw [hok, if_pos h2])).same s13)
    rw [decide_eq_false (show ¬ ((ps.map V.ref).length : Int) < 2 by rw [pl]; omega)]
    refine iteF ?_
    rw [if_neg h2] at hok
    have q1 := q1 hok
    have q4 := q4 hok
    have rowAt : ∀ {H4 : Hp} {i : Nat}, Same H3 H4 → i < W.length → ∃ p, (ps.map V.ref)[i]? = some (V.ref p) ∧ SqL K H4 p (strV (W.getD i [])) ∧ Nums (W.getD i []) ∧ rowFk i (W.getD i []) = none := by
      intro H4 i s4 hiw
      have hWi : W[i]? = some (W[i]'hiw) := List.getElem?_eq_getElem hiw
      have hip : i < ps.length := by rw [rows.len]; exact hiw
      rw [getR_of hWi]
      exact ⟨ps[i], get_map (List.getElem?_eq_getElem hip), SqL.of (s4 _ _ (rows3.st i ps[i] _ (List.getElem?_eq_getElem hip) hWi)), row_nums (hall i _ hWi) (hWat hWi).1, hall i _ hWi⟩
    -- low, high, fade
    obtain ⟨p0, h0, w0, b0, f0⟩ := rowAt (i := 0) (Same.refl H3) (by omega)
    obtain ⟨c1, c2, c3, e0⟩ := len3 ((row_good f0).2.2.2.1 rfl)
    refine ⟨_, rfl, D, _, 0, _, rfl, rfl, SqL.of hD3, atI_nat (j := 0) h0, p0, _, rfl, w0, b0, fun t0 H4 s4 _ ht0 => ?_⟩
    rw [e0] at ht0
    refine ⟨t0, _, rfl, .inl (.inl ht0), rfl, _, _, rfl, _, _, rfl, _, _, rfl, rfl, ?_⟩
    -- steps
    obtain ⟨p1, h1, w1, b1, f1⟩ := rowAt (i := 1) s4 (by omega)
    refine ⟨_, rfl, D, _, 1, _, rfl, rfl, SqL.of (s4 _ _ hD3), atI_nat (j := 1) h1, p1, _, rfl, w1, b1, fun t1 H5 s5 _ ht1 => ?_⟩
    have s35 := s4.trans s5
    -- moves
    refine ⟨_, rfl, 2, rfl, D, _, rfl, SqL.of (s35 _ _ hD3), fun L2 hL2 => ?_⟩
    rw [show cutV (ps.map V.ref) (some 2) none = (ps.map V.ref).drop 2 from cut_drop (n := 2) (by rw [pl]; omega)]
    have s6 := same_new (o := .lst ((ps.map V.ref).drop 2)) hL2
    have hL26 : (upd H5 L2 (.lst ((ps.map V.ref).drop 2))) L2 = some (.lst ((ps.map V.ref).drop 2)) := upd_same
    generalize upd H5 L2 (.lst ((ps.map V.ref).drop 2)) = H6 at s6 hL26
    have s36 := s35.trans s6
    have hm : (codOf W).moves = (W.drop 2).map fun ws => ((numsOf ws).getD 0 0, (numsOf ws).getD 1 0) := rfl
    have ml : (codOf W).moves.length = W.length - 2 := by rw [hm, List.length_map, List.length_drop]
    have dl : ((ps.map V.ref).drop 2).length = (codOf W).moves.length := by rw [List.length_drop, pl, ml]
    refine ⟨L2, rfl, ⟨_, SqL.of hL26⟩, fun E' hE => ?_⟩
    refine lc_list (K := K) (a := L2) (xs := (ps.map V.ref).drop 2) (fun i H' => ∃ xs, H' E' = some (.lst xs) ∧ DpAll K H' xs (((codOf W).moves.take i).map pairI) ∧ Same H6 H') ⟨[], upd_same, .nil, same_new hE⟩ ?_ ?_ ?_
    · rintro i H' _ ⟨xs, _, _, s7⟩
      exact s7.seq (SqL.of hL26)
    · rintro i v H' hv ⟨xs, hxs, hxd, s7⟩
      rw [List.getElem?_drop] at hv
      have hi2 : 2 + i < W.length := by
        have := (List.getElem?_eq_some_iff.mp hv).1
        rw [pl] at this
        exact this
      obtain ⟨p2, h2', w2, b2, f2⟩ := rowAt (i := 2 + i) (s36.trans s7) hi2
      rw [h2'] at hv
      cases hv
      obtain ⟨m1, m2, em⟩ := len2 ((row_good f2).2.2.2.2.2 (by omega))
      have hp : (codOf W).moves[i]? = some (m1, m2) := by
        rw [hm]
        have e2 : (W.drop 2)[i]? = some (W.getD (2 + i) []) := by
          rw [List.getElem?_drop, List.getD_eq_getElem?_getD, List.getElem?_eq_getElem hi2]
          rfl
        rw [get_map e2, em]
        rfl
      refine ⟨rfl, yes_turn ?_⟩
      refine ⟨_, rfl, p2, _, rfl, w2, b2, fun t2 H8 s8 _ ht2 => ?_⟩
      rw [em] at ht2
      have hxs8 := s8 _ _ hxs
      have xl : xs.length ≤ i := by
        rw [dpAll_len hxd, List.length_map, List.length_take]
        omega
      refine ⟨xs, hxs8, lt_line (by omega), xs ++ [.ref t2], upd_same, ?_, ?_⟩
      · rw [take_snoc hp, List.map_append]
        have mono : ∀ {ds : List PyData} {ys : List V}, (∀ d ∈ ds, ∃ p, d = pairI p) → DpAll K H8 ys ds → DpAll K (upd H8 E' (.lst (xs ++ [.ref t2]))) ys ds := by
          intro ds ys
          induction ds generalizing ys with
          | nil => intro _ h; cases h; exact .nil
          | cons d r ih =>
            intro hd h
            cases h with
            | cons a b =>
              obtain ⟨p, rfl⟩ := hd d List.mem_cons_self
              obtain ⟨t, rfl, ht⟩ := dp_pair a
              exact .cons (dp_mkpair (sqt_set hxs8 ht)) (ih (fun e he => hd e (List.mem_cons_of_mem _ he)) b)
        refine dpAll_app (mono (fun d hd => ?_) (dpAll_same s8 _ _ hxd)) (.cons (dp_mkpair (s := (m1, m2)) (sqt_set hxs8 (.inl (.inl ht2)))) .nil)
        obtain ⟨p, _, rfl⟩ := List.mem_map.mp hd
        exact ⟨p, rfl⟩
      · intro b x e
        rw [upd_ne (ne_of_none e hE)]
        exact (s7.trans s8) b x e
    rintro H7 ⟨xs, hxs, hxd, s7⟩
    rw [dl, List.take_length] at hxd
    refine ⟨E', xs, rfl, .inl ⟨SqL.of hxs, fun tm htm => ?_⟩⟩
    have s8 := same_new (o := .tup xs) htm
    -- the coder
    refine ⟨_, rfl, _, rfl, _, rfl, _, rfl, _, rfl, by show 5 ≤ sizeLine; decide, fun tc htc => ?_⟩
    have s9 := same_new (o := .tup [V.int c1, V.int c2, V.ref t1, V.ref tm, V.int c3]) htc
    have elow : (codOf W).low = c1 := by show (numsOf (W.getD 0 [])).getD 0 0 = c1; rw [e0]; rfl
    have ehigh : (codOf W).high = c2 := by show (numsOf (W.getD 0 [])).getD 1 0 = c2; rw [e0]; rfl
    have efade : (codOf W).fade = c3 := by show (numsOf (W.getD 0 [])).getD 2 0 = c3; rw [e0]; rfl
    have hc : Dp K (upd (upd H7 tm (.tup xs)) tc (.tup [V.int c1, V.int c2, V.ref t1, V.ref tm, V.int c3])) (.ref tc) (codOf W).dat := by
      unfold Cod.dat
      rw [elow, ehigh, efade]
      exact .tup upd_tup (.cons (.int _) (.cons (.int _) (.cons (dp_tints (.inl (.inl ((((s6.trans s7).trans s8).trans s9) _ _ ht1)))) (.cons (.tup (.inl (.inl (s9 _ _ upd_same))) (dpAll_same (s8.trans s9) _ _ hxd)) (.cons (.int _) .nil)))))
    have sall := (((s13.trans s36).trans s7).trans (s8.trans s9))
    refine ⟨.ref tc, (codOf W).dat, rfl, hc, fun hn H10 s10 => ?_, fun y z hf => (q4 y z hf).same sall⟩
    exact q1 hn _ _ (sall.trans s10) (dp_same s10 _ _ hc)
end
end My

set_option pp.maxSteps 1500
namespace My
open PySem PySem.Spec PyProof.Rows L2
/-- the signs that are no digits -/
def noDig (l : List Nat) : List Str := (l.filter fun c => !decide (c ∈ ("0123456789" : Str).cps.toList)).map fun c => (⟨#[c]⟩ : Str)
theorem noDig_nil {l : List Nat} : (noDig l).isEmpty = digB l := by
  unfold noDig digB
  have e : ∀ c : Nat, decide (c ∈ ("0123456789" : Str).cps.toList) = (decide (48 ≤ c) && decide (c ≤ 57)) := fun c => by
    cases h : decide (c ∈ ("0123456789" : Str).cps.toList) with
    | true =>
      have := (dig_iff c).mp h
      rw [decide_eq_true this.1, decide_eq_true this.2]
      rfl
    | false =>
      cases h2 : (decide (48 ≤ c) && decide (c ≤ 57)) with
      | false => rfl
      | true =>
        obtain ⟨a, b⟩ := Bool.and_eq_true_iff.mp h2
        have := (dig_iff c).mpr ⟨of_decide_eq_true a, of_decide_eq_true b⟩
        rw [h] at this
        cases this
  induction l with
  | nil => rfl
  | cons c r ih =>
    rw [List.filter_cons, e c, List.all_cons]
    cases h : (decide (48 ≤ c) && decide (c ≤ 57)) with
    | true => rw [if_neg (by decide), ih, Bool.true_and]
    | false => rw [if_pos (by decide)]; rfl
theorem cut_head (w : Str) : V.str (cutS w none (some 1)) = V.str "-" ↔ ∃ r, TL.tl w = 45 :: r := by
  have e : TL.tl (cutS w none (some 1)) = (TL.tl w).take 1 := by
    show ((((w).cps.toList.drop (HT.sIx w.length 0 none)).take (HT.sIx w.length w.length (some ((1 : Nat) : Int)) - HT.sIx w.length 0 none)).toArray).toList = _
    rw [HT.sIx_nat, HT.sIx_none, List.drop_zero, Nat.sub_zero]
    show (TL.tl w).take (min 1 w.length) = _
    rw [TL.len_tl]
    cases TL.tl w with
    | nil => rfl
    | cons c r => rw [show min 1 (c :: r).length = 1 by rw [List.length_cons]; omega]
  constructor
  · intro h
    have h := congrArg TL.tl (V.str.inj h)
    rw [e, show TL.tl "-" = [45] by decide +kernel] at h
    cases hw : TL.tl w with
    | nil => rw [hw] at h; cases h
    | cons c r =>
      rw [hw] at h
      injection h with h _
      exact ⟨r, by rw [h]⟩
  · rintro ⟨r, h⟩
    congr 1
    refine TL.ext_tl ?_
    rw [e, h]
    show [45] = _
    decide +kernel
section
variable {P : Program} {w : World} {K : PySem.W.Frag} {mg : Str → Option Value} {base : Heap}
def numL1 (x : Str) : List Int := if numB x = true then [numOf x] else []
def sp_number : Sp := fun vs H Q _ => ∃ x : Str, vs = [.str x] ∧ x.length ≤ 1000000 ∧ ∀ p H', Same H H' → H' p = some (.lst ((numL1 x).map V.int)) → Q (.ref p) H'
set_option maxHeartbeats 4000000 in
theorem ok_law_number (T : Txt K mg) : FnOk P w K mg base CX0 2 T.f__law_number T.d__law_number ["word"] sp_number := by
  refine T.F__law_number.ok sc_law_number (fun vs H Q E h => ?_) (fun cdv A outer s H vs Q E hr h => ?_)
  · obtain ⟨x, rfl, _⟩ := h
    rfl
  · obtain ⟨x, rfl, hx, q⟩ := h
    refine ⟨_,
(pss_cons (ps_set (i := 1) sc_law_number.nd rfl (Or.inl rfl) (pe_ifExp (pt_cmpR op_eq (pe_slice sl_str (pv 0) po_none (po_some pe_int)) pe_str (nomark _)) (pe_slice sl_str (pv 0) (po_some pe_int) po_none) (pv 0)))
      (pss_cons (ps_if (PW.pt (pw_or (pt_not (pt_chain op_le op_le pe_int (pe_callB call_len_str (by rfl) T.z_len (by decide +kernel) (pa_cons (pv 1) pa_nil)) pe_int)) (pw_or1 (pt_cmpR (My.op_neNil hr.units) (pe_lc (own := [("sign", 2)]) rfl sc_law_number.nd (pi_str (pv 1)) (blkOk_by (own := [("sign", 2)]) (N := ["word", "body", "sign"]) (sc := defScope s_law_number) (by decide +kernel)) (fun _ _ _ _ _ => (pg_name (i := 2) sc_law_number.nd rfl (Or.inl rfl))) (fun _ _ _ _ _ => pts_one (pt_cmpR op_notIn_sign (pv 2) pe_str (by with_unfolding_all rfl))) (fun _ _ _ _ _ => (pv 2))) (pe_lst pa_nil) (nomark _))))) (pss_one (ps_ret (pe_lst pa_nil))) pss_nil)
      (pss_one (ps_ret (pe_ifExp (PW.pt (pw_and (pt_cmpR op_eq (pe_ix ix_str (pv 1) pe_int (fun _ _ => rfl)) pe_str (nomark _)) (pw_and1 (pt_cmpR op_ne (pv 0) pe_str (nomark _))))) (pe_lst pa_nil) (pe_lst (pa_cons (pe_callTy call_int_str (by rfl) T.z_int (by decide +kernel) (pa_cons (pv 0) pa_nil)) pa_nil)))))))
, ?_⟩
    have no : ∀ H', Same H H' → numB x = false → ∀ p, H' p = none → Q (.ref p) (upd H' p (.lst [])) := fun H' s h p hp => by
      refine q p _ (s.trans (same_new hp)) ?_
      unfold numL1
      rw [h]
      exact upd_same
    dsimp only
    refine st_tail (fun σ H' => ∃ z : Str, σ = [some (.str x), some (.str z), none] ∧ H' = H ∧ z.length ≤ 1000000 ∧ TL.tl z = behind (TL.tl x)) ?_ fun tail => ?_
    · rintro σ H1 ⟨z, rfl, rfl, zl, hz⟩
      have form := numB_form (w := x)
      rw [← hz] at form
      have zlen : z.length = (TL.tl z).length := TL.len_tl z
      have nof : ∀ {p : Prop}, ¬ p → (numB x = true → p) → numB x = false := fun {p} h1 h2 => by
        cases e : numB x with
        | false => rfl
        | true => exact absurd (h2 e) h1
      refine ⟨_, rfl, z, rfl, sz_line zl, 1, _, rfl, rfl, _, rfl, ?_⟩
      by_cases h1 : (1 : Int) ≤ (z.length : Int)
      case neg =>
        rw [decide_eq_false h1]
        refine iteF ?_
        refine ⟨_, rfl, iteT (iteT ?_)⟩
        exact ⟨Nat.zero_le _, fun p hp => no _ (Same.refl _) (nof (fun h => by omega) fun h => (form.mp h).1.1) p hp⟩
      rw [decide_eq_true h1]
      refine iteT ⟨_, _, rfl, rfl, _, rfl, ?_⟩
      by_cases h5 : (z.length : Int) ≤ 5
      case neg =>
        rw [decide_eq_false h5]
        refine iteT (iteT ?_)
        exact ⟨Nat.zero_le _, fun p hp => no _ (Same.refl _) (nof (fun h => by omega) fun h => (form.mp h).1.2) p hp⟩
      rw [decide_eq_true h5]
      refine iteF ?_
      refine ⟨_, rfl, z, rfl, fun D hD => ?_⟩
      have hsz : z.cps.toList.length = z.length := by rw [Array.length_toList]; rfl
      refine lc_it (walk_str (z := z)) (fun i H' => H' = upd H1 D (.lst (strV (noDig (z.cps.toList.take i))))) rfl (fun _ _ _ _ => trivial) ?_ ?_
      · rintro i y H2 H3 hi rfl ⟨rfl, c, hc, rfl⟩
        have hc' : z.cps.toList[i]? = some c := by rw [Array.getElem?_toList]; exact hc
        have hsnoc : noDig (z.cps.toList.take (i + 1)) = noDig (z.cps.toList.take i) ++ (if decide (c ∈ ("0123456789" : Str).cps.toList) = true then [] else [(⟨#[c]⟩ : Str)]) := by
          unfold noDig
          rw [take_snoc hc', List.filter_append, List.map_append]
          congr 1
          rw [List.filter_cons, List.filter_nil]
          cases decide (c ∈ ("0123456789" : Str).cps.toList) <;> rfl
        refine ⟨rfl, _, rfl, c, "0123456789", rfl, rfl, _, rfl, ?_⟩
        show if (!decide (c ∈ ("0123456789" : Str).cps.toList)) = true then _ else _
        cases hd : decide (c ∈ ("0123456789" : Str).cps.toList) with
        | true =>
          rw [hd, if_pos rfl, List.append_nil] at hsnoc
          refine iteF ?_
          rw [hsnoc]
        | false =>
          rw [hd, if_neg (by decide)] at hsnoc
          refine iteT ?_
          refine ⟨_, rfl, _, upd_same, ?_, ?_⟩
          · unfold strV noDig
            rw [List.length_map, List.length_map]
            have := List.length_filter_le (fun c => !decide (c ∈ ("0123456789" : Str).cps.toList)) (z.cps.toList.take i)
            rw [List.length_take] at this
            exact lt_line (by omega)
          · rw [upd_upd, hsnoc]
            unfold strV
            rw [List.map_append]
            rfl
      · rintro H2 rfl
        have et : z.cps.toList.take z.cps.size = TL.tl z := by rw [← Array.length_toList, List.take_length]
        rw [et]
        have sD := same_new (o := .lst (strV (noDig (TL.tl z)))) hD
        have hD1 : (upd H1 D (.lst (strV (noDig (TL.tl z))))) D = some (.lst (strV (noDig (TL.tl z)))) := upd_same
        generalize upd H1 D (.lst (strV (noDig (TL.tl z)))) = H2 at sD hD1
        refine ⟨Nat.zero_le _, fun p hp => ?_⟩
        have sp' := same_new (o := .lst []) hp
        have hD2 := sp' _ _ hD1
        refine ⟨D, p, _, rfl, rfl, SqL.of hD2, SqL.of upd_same, _, rfl, ?_⟩
        have s2 := sD.trans sp'
        have eE : (strV (noDig (TL.tl z))).isEmpty = digB (TL.tl z) := by
          rw [← noDig_nil]
          cases noDig (TL.tl z) <;> rfl
        rw [eE]
        generalize upd H2 p (.lst []) = H3 at s2
        cases hd : digB (TL.tl z) with
        | false =>
          refine iteT ?_
          exact ⟨Nat.zero_le _, fun p hp => no _ s2 (nof (fun h => by rw [digB_iff.mpr h] at hd; cases hd) fun h => (form.mp h).2.1) p hp⟩
        | true =>
          refine iteF ?_
          obtain ⟨c, r, hc⟩ : ∃ c r, TL.tl z = c :: r := by
            cases e : TL.tl z with
            | nil => rw [e] at zlen; simp at zlen; omega
            | cons c r => exact ⟨c, r, rfl⟩
          refine ⟨_, rfl, z, 0, c, rfl, rfl, sz_line zl, ?_, rfl, _, rfl, ?_⟩
          · show atI (TL.tl z) 0 = some c
            rw [hc]
            exact atI_nat (j := 0) rfl
          have eq : V.str (⟨#[c]⟩ : Str) = V.str "0" ↔ c = 48 := by
            constructor
            · intro h
              have := congrArg TL.tl (V.str.inj h)
              rw [show TL.tl "0" = [48] from by decide +kernel] at this
              injection this
            · rintro rfl
              congr 1
          have yes : numB x = true → ∃ n : Int, numL1 x = [n] ∧ intText? x = some n ∧ x.length ≤ 640 := fun h => by
            obtain ⟨n, hn, rfl, h3, h4⟩ := num_at h
            exact ⟨n, by unfold numL1; rw [if_pos h, h3], h4, by have := sI_len hn; omega⟩
          have b15 : 1 ≤ z.length ∧ z.length ≤ 5 := ⟨by omega, by omega⟩
          by_cases h48 : c = 48
          · rw [decide_eq_true (eq.mpr h48)]
            refine iteT ?_
            refine ⟨_, rfl, rfl, _, rfl, ?_⟩
            show if (!decide (V.str x = V.str "0")) = true then _ else _
            by_cases x0 : V.str x = V.str "0"
            · rw [decide_eq_true x0]
              refine iteF ?_
              obtain ⟨n, e1, e2, e3⟩ := yes (form.mpr ⟨b15, digB_iff.mp hd, .inl (V.str.inj x0)⟩)
              refine ⟨_, rfl, x, n, rfl, e2, e3, by show 1 ≤ sizeLine; decide, fun p hp => q p _ (s2.trans (same_new hp)) ?_⟩
              rw [e1]
              exact upd_same
            · rw [decide_eq_false x0]
              refine iteT ?_
              refine ⟨Nat.zero_le _, fun p hp => no _ s2 (nof (fun h => ?_) fun h => (form.mp h).2.2) p hp⟩
              rcases h with h | h
              · exact x0 (by rw [h])
              · rw [hc, h48] at h
                exact h rfl
          · rw [decide_eq_false (fun h => h48 (eq.mp h))]
            refine iteF ?_
            refine iteF ?_
            obtain ⟨n, e1, e2, e3⟩ := yes (form.mpr ⟨b15, digB_iff.mp hd, .inr (by rw [hc]; intro h; exact h48 (Option.some.inj h))⟩)
            refine ⟨_, rfl, x, n, rfl, e2, e3, by show 1 ≤ sizeLine; decide, fun p hp => q p _ (s2.trans (same_new hp)) ?_⟩
            rw [e1]
            exact upd_same
    · refine ⟨_, rfl, 1, rfl, x, rfl, sz_line hx, rfl, _, rfl, ?_⟩
      show if decide (V.str (cutS x none (some 1)) = V.str "-") = true then _ else _
      by_cases hc : V.str (cutS x none (some 1)) = V.str "-"
      · rw [decide_eq_true hc]
        refine iteT ?_
        obtain ⟨r, e⟩ := (cut_head x).mp hc
        exact ⟨_, rfl, 1, rfl, x, rfl, sz_line hx, tail _ _ ⟨_, rfl, rfl, Nat.le_trans (cutS_length _ _ _) hx, by rw [cut_tail e, e]; rfl⟩⟩
      · rw [decide_eq_false hc]
        refine iteF ?_
        refine ⟨_, rfl, tail _ _ ⟨x, rfl, rfl, hx, ?_⟩⟩
        cases e : TL.tl x with
        | nil => rfl
        | cons c r =>
          have : c ≠ 45 := fun h => hc ((cut_head x).mpr ⟨r, by rw [e, h]⟩)
          exact (if_neg this).symm
end
end My

set_option pp.maxSteps 1500
namespace My
open PySem PySem.Spec PyProof.Rows L2
def noOrI : Option Nat → V
  | none => .non
  | some f => .int (f : Int)
section
variable {P : Program} {w : World} {K : PySem.W.Frag} {mg : Str → Option Value} {base : Heap}
def sp_row_fault (K : PySem.W.Frag) : Sp := fun vs H Q _ => ∃ (a : Addr) (name : Str) (least most : Nat) (ws : List Str), vs = [.ref a, .str name, .int (least : Int), .int (most : Int)] ∧ SqL K H a (strV ws) ∧ ws ≠ [] ∧
  ws.length ≤ 900000 ∧ (∀ w ∈ ws, w.length ≤ 1000000) ∧ ∀ H', Same H H' → Q (noOrI (rowFault name least most ws)) H'
theorem ok_law_row_fault (T : Txt K mg) : FnOk P w K mg base CX0 3 T.f__law_row_fault T.d__law_row_fault ["words", "name", "least", "most"] (sp_row_fault K) := by
  refine T.F__law_row_fault.ok sc_law_row_fault (fun vs H Q E h => ?_) (fun cdv A outer s H vs Q E hr h => ?_)
  · obtain ⟨a, name, least, most, ws, rfl, _⟩ := h
    rfl
  · obtain ⟨a, name, least, most, ws, rfl, hw, hne, hl, hwl, q⟩ := h
    have wl : (strV ws).length = ws.length := List.length_map ..
    refine ⟨_,
(pss_cons (ps_if (pt_cmpR op_in_seq pe_str (pv 0) (by with_unfolding_all rfl)) (pss_one (ps_ret pe_int)) pss_nil)
      (pss_cons (ps_if (pt_cmpR op_ne (pe_ix ix_list (pv 0) pe_int (fun _ _ => rfl)) (pv 1) (nomark _)) (pss_one (ps_ret pe_int)) pss_nil)
      (pss_cons (ps_for PassesOwn.never rfl (pi_enum (by rfl) T.z_enumerate (pa_cons (pe_slice sl_list (pv 0) (po_some pe_int) po_none) pa_nil)) (pg_tup (by rfl) (pgs_cons (pg_name (i := 4) sc_law_row_fault.nd rfl (Or.inl rfl)) (pgs_cons (pg_name (i := 5) sc_law_row_fault.nd rfl (Or.inl rfl)) pgs_nil))) (pss_one (ps_if (PW.pt (pw_or (pt_cmpR op_ge (pv 4) (pv 3) (nomark _)) (pw_or1 (pt_cmpR (op_eqD hr.units) (pe_call (ok_law_number T) (hr.mono (by decide)) (by rfl) T.g__law_number T.F__law_number.kp T.b__law_number .nil pass0 (pa_cons (pv 5) pa_nil)) (pe_lst pa_nil) (nomark _))))) (pss_one (ps_ret (pe_op op_add (pv 4) pe_int))) pss_nil)))
      (pss_one (ps_ret (pe_ifExp (pt_cmpR op_le (pe_callB (call_len_seq) (by rfl) T.z_len (by decide +kernel) (pa_cons (pv 0) pa_nil)) (pv 2) (nomark _)) (pe_op op_add (pe_callB (call_len_seq) (by rfl) T.z_len (by decide +kernel) (pa_cons (pv 0) pa_nil)) pe_int) pe_non))))))
, ?_⟩
    have q : ∀ r H', rowFault name least most ws = r → Same H H' → Q (noOrI r) H' := fun r H' e s => e ▸ q H' s
    refine ⟨_, rfl, a, _, rfl, .inl hw, rfl, flat_strs ws, _, rfl, ?_⟩
    show if inV (.str "") (strV ws) = true then _ else _
    cases h0 : inV (.str "") (strV ws) with
    | true => exact iteT (q _ _ (fault_0 h0) (Same.refl _))
    | false =>
    refine iteF ?_
    obtain ⟨w0, ws', rfl⟩ : ∃ w0 ws', ws = w0 :: ws' := by
      cases ws with
      | nil => exact absurd rfl hne
      | cons w0 r => exact ⟨w0, r, rfl⟩
    refine ⟨_, rfl, a, _, 0, .str w0, rfl, rfl, hw, atI_nat (j := 0) rfl, _, rfl, rfl, _, rfl, ?_⟩
    show if (!decide (V.str w0 = V.str name)) = true then _ else _
    by_cases h1 : V.str w0 = V.str name
    case neg =>
      rw [decide_eq_false h1]
      exact iteT (q _ _ (fault_1 h0 h1) (Same.refl _))
    rw [decide_eq_true h1]
    refine iteF ?_
    refine ⟨_, rfl, 1, rfl, a, _, rfl, hw, fun L hL => ?_⟩
    have e1 : cutV (strV (w0 :: ws')) (some 1) none = strV ws' := by
      rw [show cutV (strV (w0 :: ws')) (some 1) none = (strV (w0 :: ws')).drop 1 from cut_drop (n := 1) (by rw [wl, List.length_cons]; omega)]
      rfl
    rw [e1]
    have s1 := same_new (o := .lst (strV ws')) hL
    have hL1 : (upd H L (.lst (strV ws'))) L = some (.lst (strV ws')) := upd_same
    generalize upd H L (.lst (strV ws')) = H1 at s1 hL1
    have wl' : (strV ws').length = ws'.length := List.length_map ..
    refine ⟨L, _, rfl, SqL.of hL1, ?_⟩
    refine for_it (walk_enum (K := K) (a := L) (xs := strV ws')) (fun i σ H' => ∃ y4 y5, σ = [some (.ref a), some (.str name), some (.int (least : Int)), some (.int (most : Int)), y4, y5] ∧ Same H1 H' ∧ ∀ j, j < i + 1 → badB most (w0 :: ws') j = false)
      ⟨none, none, rfl, Same.refl H1, fun j hj => by
        have : j = 0 := by omega
        subst this
        rfl⟩ ?_ ?_ ?_
    · rintro i σ H' _ ⟨_, _, _, s2, _⟩
      exact s2.seq (SqL.of hL1)
    · rintro i x σ H3 H3' hi ⟨y4, y5, rfl, s3, hall⟩ ⟨T', x', y', rfl, hT, rfl, hx, hy⟩
      cases Option.some.inj hx
      obtain ⟨w, hw', rfl⟩ := map_get hy
      have s4 := s3.trans (same_new (o := .tup [V.int (i : Nat), V.str w]) hT)
      refine ⟨T', _, rfl, upd_tup, rfl, _, _, rfl, _, _, rfl, rfl, ?_⟩
      generalize upd H3 T' (.tup [V.int (i : Nat), V.str w]) = H4 at s4
      have hi' : i < ws'.length := (List.getElem?_eq_some_iff.mp hw').1
      have hg : (w0 :: ws')[i + 1]? = some w := by
        rw [List.getElem?_cons_succ]
        exact hw'
      have hb : badB most (w0 :: ws') (i + 1) = (decide (most < i + 1) || !numB w) := by
        unfold badB
        rw [decide_eq_true (by omega), Bool.true_and, getD_of hg]
      have hlt : i + 1 < (w0 :: ws').length := by rw [List.length_cons]; omega
      have bad : ∀ H2, Same H H2 → badB most (w0 :: ws') (i + 1) = true → Q (.int ((i : Int) + 2)) H2 := fun H2 s2 hb => by
        have := q _ H2 (fault_n h0 h1 hlt hb hall) s2
        rw [show ((i : Int) + 2) = ((i + 1 + 1 : Nat) : Int) by omega]
        exact this
      refine ⟨_, rfl, _, rfl, _, _, rfl, rfl, _, rfl, ?_⟩
      by_cases hm : (most : Int) ≤ (i : Int)
      · rw [decide_eq_true hm]
        refine iteT (iteT ?_)
        refine ⟨_, rfl, _, _, rfl, rfl, bad H4 (s1.trans s4) ?_⟩
        rw [hb, decide_eq_true (by omega)]
        rfl
      · rw [decide_eq_false hm]
        refine iteF ?_
        refine ⟨_, rfl, w, rfl, hwl _ (List.mem_cons_of_mem _ (get_mem hw')), fun p H5 s5 hp => ⟨Nat.zero_le _, fun p2 hp2 => ?_⟩⟩
        have s6 := same_new (o := .lst []) hp2
        refine ⟨.list (pis (numL1 w)), .list [], .lst (SqL.of (s6 _ _ hp)) (dp_ints _), .lst (SqL.of upd_same) .nil, shaped_ints _, by rfl, _, rfl, ?_⟩
        have s46 := (s4.trans s5).trans s6
        rw [eqv_nil]
        have en : (numL1 w).isEmpty = !numB w := by
          unfold numL1
          cases numB w <;> rfl
        rw [en]
        rw [decide_eq_false (by omega), Bool.false_or] at hb
        generalize upd H5 p2 (.lst []) = H6 at s46
        cases hn : numB w with
        | true =>
          rw [hn] at hb
          refine iteF ?_
          refine ⟨_, _, rfl, s46, fun j hj => ?_⟩
          by_cases e : j = i + 1
          · rw [e]; exact hb
          · exact hall j (by omega)
        | false =>
          rw [hn] at hb
          refine iteT ?_
          exact ⟨_, rfl, _, _, rfl, rfl, bad H6 (s1.trans s46) hb⟩
    · rintro σ H2 ⟨y4, y5, rfl, s2, hall⟩
      have hall : ∀ j, j < (w0 :: ws').length → badB most (w0 :: ws') j = false := fun j hj => hall j (by rw [wl']; rw [List.length_cons] at hj; omega)
      have hf := fault_l (least := least) h0 h1 hall
      have s12 := s1.trans s2
      refine ⟨_, rfl, a, _, rfl, .inl (s12.seq hw), _, rfl, _, _, rfl, rfl, _, rfl, ?_⟩
      by_cases h2 : (w0 :: ws').length ≤ least
      · rw [decide_eq_true (show ((strV (w0 :: ws')).length : Int) ≤ (least : Int) by rw [wl]; omega)]
        refine iteT ?_
        rw [if_pos h2] at hf
        refine ⟨_, rfl, a, _, rfl, .inl (s12.seq hw), _, _, rfl, rfl, ?_⟩
        have := q _ H2 hf s12
        show Q (.int (((strV (w0 :: ws')).length : Int) + 1)) H2
        rw [show ((strV (w0 :: ws')).length : Int) + 1 = (((w0 :: ws').length + 1 : Nat) : Int) by rw [wl]; omega]
        exact this
      · rw [decide_eq_false (show ¬ ((strV (w0 :: ws')).length : Int) ≤ (least : Int) by rw [wl]; omega)]
        refine iteF ?_
        rw [if_neg h2] at hf
        exact q _ H2 hf s12
def sp_is_pairL (K : PySem.W.Frag) : Sp := fun vs H Q _ => ∃ (a : Addr) (x y : Int), vs = [.ref a] ∧ SqT K H a [.int x, .int y] ∧ Q (.bl (moveD (pairI (x, y)))) H
theorem ok_law_is_pair (T : Txt K mg) : FnOk P w K mg base CX0 2 T.f__law_is_pair T.d__law_is_pair ["move"] (sp_is_pairL K) := by
  refine T.F__law_is_pair.ok sc_law_is_pair (fun vs H Q E h => ?_) (fun cdv A outer s H vs Q E hr h => ?_)
  · obtain ⟨a, x, y, rfl, _⟩ := h
    rfl
  · obtain ⟨a, x, y, rfl, ha, q⟩ := h
    refine ⟨_,
(pss_one (ps_ret (pe_and (pe_chain op_le op_le (pe_un un_neg pe_int) (pe_ix ix_tup (pv 0) pe_int (fun _ _ => rfl)) pe_int) (pe_one (pe_chain op_le op_le (pe_un un_neg pe_int) (pe_ix ix_tup (pv 0) pe_int (fun _ _ => rfl)) pe_int)))))
, ?_⟩
    have q : ∀ b, moveD (pairI (x, y)) = b → Q (.bl b) H := fun b e => e ▸ q
    have hm : moveD (pairI (x, y)) = ((decide (-32 ≤ x) && decide (x ≤ 32)) && (decide (-15 ≤ y) && decide (y ≤ 15))) := rfl
    refine ⟨32, rfl, _, rfl, a, _, 0, .int x, rfl, rfl, ha, atI_nat (j := 0) rfl, _, _, rfl, rfl, _, rfl, ?_⟩
    by_cases h1 : -32 ≤ x
    case neg =>
      rw [decide_eq_false h1] at hm ⊢
      exact iteF ⟨_, rfl, iteF (q _ (by rw [hm]; rfl))⟩
    rw [decide_eq_true h1] at hm ⊢
    refine iteT ⟨_, _, rfl, rfl, _, rfl, ?_⟩
    by_cases h2 : x ≤ 32
    case neg =>
      rw [decide_eq_false h2] at hm ⊢
      exact iteF (q _ (by rw [hm]; rfl))
    rw [decide_eq_true h2] at hm ⊢
    refine iteT ?_
    refine ⟨15, rfl, _, rfl, a, _, 1, .int y, rfl, rfl, ha, atI_nat (j := 1) rfl, _, _, rfl, rfl, _, rfl, ?_⟩
    by_cases h3 : -15 ≤ y
    case neg =>
      rw [decide_eq_false h3] at hm ⊢
      exact iteF (q _ (by rw [hm]; rfl))
    rw [decide_eq_true h3] at hm ⊢
    refine iteT ⟨_, _, rfl, rfl, q _ ?_⟩
    rw [hm]
    rfl
/-- the head of what is filtered -/
theorem head_filter {q : Nat → Bool} {n : Nat} : ((List.range n).filter q).head? = (List.range n).find? q := List.head?_filter ..
theorem badAt_some {p : PyData → Bool} : ∀ {ds : List PyData} {i k : Nat} {d : PyData}, ds[k]? = some d → p d = false → (∀ j e, j < k → ds[j]? = some e → p e = true) → badAt p i ds = some (i + k)
  | [], _, _, _, h, _, _ => by simp at h
  | e :: r, i, 0, d, h, hd, _ => by
    simp at h
    subst h
    show (if p e = true then badAt p (i + 1) r else some i) = _
    rw [if_neg (by rw [hd]; decide)]
    rfl
  | e :: r, i, k + 1, d, h, hd, ha => by
    show (if p e = true then badAt p (i + 1) r else some i) = _
    rw [if_pos (ha 0 e (by omega) rfl), badAt_some (by simpa using h) hd fun j u hj hu => ha (j + 1) u (by omega) (by simpa using hu)]
    congr 1
    omega
end
end My

set_option pp.maxSteps 1500
namespace My
open PySem PySem.Spec PyProof.Rows L2
section
variable {C : Cod}
theorem cod_low (h : btw (.int C.low) (-32768) 0 = false) : firstF C.dat = .tuple [.str "low", .none] := by
  show codF (.int C.low) (.int C.high) (.tuple (C.steps.map .int)) (.tuple (C.moves.map pairI)) (.int C.fade) = _
  unfold codF
  rw [if_neg (by rw [h]; decide)]
theorem cod_high (h1 : btw (.int C.low) (-32768) 0 = true) (h : btw (.int C.high) 0 32767 = false) : firstF C.dat = .tuple [.str "high", .none] := by
  show codF (.int C.low) (.int C.high) (.tuple (C.steps.map .int)) (.tuple (C.moves.map pairI)) (.int C.fade) = _
  unfold codF
  rw [if_pos h1, if_neg (by rw [h]; decide)]
theorem cod_steps (h1 : btw (.int C.low) (-32768) 0 = true) (h2 : btw (.int C.high) 0 32767 = true) {a b : PyData} (h : stepsF (.tuple (C.steps.map .int)) = .tuple [a, b]) : firstF C.dat = .tuple [a, b] := by
  show codF (.int C.low) (.int C.high) (.tuple (C.steps.map .int)) (.tuple (C.moves.map pairI)) (.int C.fade) = _
  unfold codF
  rw [if_pos h1, if_pos h2, h]
theorem cod_moves (h1 : btw (.int C.low) (-32768) 0 = true) (h2 : btw (.int C.high) 0 32767 = true) (h3 : stepsF (.tuple (C.steps.map .int)) = .none) {a b : PyData} (h : movesF (.tuple (C.moves.map pairI)) = .tuple [a, b]) : firstF C.dat = .tuple [a, b] := by
  show codF (.int C.low) (.int C.high) (.tuple (C.steps.map .int)) (.tuple (C.moves.map pairI)) (.int C.fade) = _
  unfold codF
  rw [if_pos h1, if_pos h2, h3, h]
theorem cod_fade (h1 : btw (.int C.low) (-32768) 0 = true) (h2 : btw (.int C.high) 0 32767 = true) (h3 : stepsF (.tuple (C.steps.map .int)) = .none) (h4 : movesF (.tuple (C.moves.map pairI)) = .none) : firstF C.dat = if fadeD (.int C.fade) = true then .none else .tuple [.str "fade", .none] := by
  show codF (.int C.low) (.int C.high) (.tuple (C.steps.map .int)) (.tuple (C.moves.map pairI)) (.int C.fade) = _
  unfold codF
  rw [if_pos h1, if_pos h2, h3, h4]
theorem rowF_len {s : Str} {lo hi : Int} {p : PyData → Bool} {ds : List PyData} (h : ¬ (lo ≤ (ds.length : Int) ∧ (ds.length : Int) ≤ hi)) : rowF s lo hi p (.tuple ds) = .tuple [.str s, .none] := by
  show (if tupD (.tuple ds) lo hi = true then faultD s (badAt p 0 ds) else .tuple [.str s, .none]) = _
  refine if_neg fun z => h ?_
  obtain ⟨a, b⟩ := Bool.and_eq_true_iff.mp (show (decide (lo ≤ (ds.length : Int)) && decide ((ds.length : Int) ≤ hi)) = true from z)
  exact ⟨of_decide_eq_true a, of_decide_eq_true b⟩
theorem rowF_in {s : Str} {lo hi : Int} {p : PyData → Bool} {ds : List PyData} (h : lo ≤ (ds.length : Int) ∧ (ds.length : Int) ≤ hi) : rowF s lo hi p (.tuple ds) = faultD s (badAt p 0 ds) := if_pos (tup_in h.1 h.2)
end
/-- the places that are wrong, up to i -/
def wrongP (p : PyData → Bool) (ds : List PyData) (i : Nat) : List Nat := (List.range i).filter fun k => !p (ds.getD k .none)
theorem getP_of {ds : List PyData} {i : Nat} {d : PyData} (h : ds[i]? = some d) : ds.getD i .none = d := by
  rw [List.getD_eq_getElem?_getD, h]
  rfl
theorem wrongP_succ {p : PyData → Bool} {ds : List PyData} {i : Nat} {d : PyData} (h : ds[i]? = some d) : wrongP p ds (i + 1) = wrongP p ds i ++ (if p d = true then [] else [i]) := by
  unfold wrongP
  rw [List.range_succ, List.filter_append]
  congr 1
  rw [List.filter_cons, List.filter_nil, getP_of h]
  cases p d <;> rfl
theorem wrongP_head {p : PyData → Bool} {ds : List PyData} : badAt p 0 ds = (wrongP p ds ds.length).head? := by
  unfold wrongP
  rw [head_filter]
  cases e : (List.range ds.length).find? (fun k => !p (ds.getD k .none)) with
  | none =>
    refine badAt_none fun d hd => ?_
    obtain ⟨i, hi, rfl⟩ := List.getElem_of_mem hd
    have := no_find e i hi
    simp only [getP_of (List.getElem?_eq_getElem hi)] at this
    cases h : p ds[i] with
    | true => rfl
    | false => rw [h] at this; cases this
  | some k =>
    obtain ⟨h1, h2, h3⟩ := List.find?_range_eq_some.mp e
    have hk := List.mem_range.mp h2
    have hg : ds[k]? = some (ds[k]'hk) := List.getElem?_eq_getElem hk
    rw [getP_of hg] at h1
    have := badAt_some (p := p) (i := 0) hg (by cases h : p ds[k] with | false => rfl | true => rw [h] at h1; cases h1) fun j u hj hu => by
      have := h3 j hj
      rw [getP_of hu] at this
      cases h : p u with
      | true => rfl
      | false => rw [h] at this; cases this
    rw [this, Nat.zero_add]
theorem wrongP_len {p : PyData → Bool} {ds : List PyData} {i : Nat} : (wrongP p ds i).length ≤ i := by
  have := List.length_filter_le (fun k => !p (ds.getD k .none)) (List.range i)
  rw [List.length_range] at this
  exact this
theorem walk_enumT {K : PySem.W.Frag} {a : Addr} {xs : List V} : Walk (Itu K a) xs.length (fun H => SqT K H a xs) (YPair (fun i => some (.int (i : Nat))) (fun i => xs[i]?)) := by
  refine ⟨fun i _ hi q => ⟨xs, xs[i], q, by simp [hi]⟩, fun _ q => ⟨xs, q, rfl⟩, fun i H v H' _ q y => ?_⟩
  obtain ⟨T, x, h1, h2, h3, h4⟩ := y
  exact ⟨T, .int (i : Nat), x, h1, h2, h3, rfl, h4 xs q⟩
def natI (xs : List Nat) : List Int := xs.map fun k : Nat => (k : Int)
section
variable {P : Program} {w : World} {K : PySem.W.Frag} {mg : Str → Option Value} {base : Heap}
def sp_fault (K : PySem.W.Frag) : Sp := fun vs H Q _ => ∃ (s m : Addr) (ms : List V) (C : Cod), vs = [.int C.low, .int C.high, .ref s, .ref m, .int C.fade] ∧ SqT K H s (C.steps.map V.int) ∧ 1 ≤ C.steps.length ∧ C.steps.length ≤ 900000 ∧
  SqT K H m ms ∧ DpAll K H ms (C.moves.map pairI) ∧ C.moves.length ≤ 900000 ∧ ∀ z H', Same H H' → Dp K H' z (firstF C.dat) → Q z H'
set_option maxHeartbeats 4000000 in
theorem ok_law_fault (T : Txt K mg) : FnOk P w K mg base CX0 3 T.f__law_fault T.d__law_fault ["low", "high", "steps", "moves", "fade"] (sp_fault K) := by
  refine T.F__law_fault.ok sc_law_fault (fun vs H Q E h => ?_) (fun cdv A outer s H vs Q E hr h => ?_)
  · obtain ⟨s, m, ms, C, rfl, _⟩ := h
    rfl
  · obtain ⟨sa, ma, ms, C, rfl, hs, hs1, hs9, hm, hmd, hm9, q⟩ := h
    refine ⟨_,
(pss_cons (ps_if (pt_not (pt_chain op_le op_le (pe_un un_neg pe_int) (pv 0) pe_int)) (pss_one (ps_ret (pe_tup (pa_cons pe_str (pa_cons pe_non pa_nil))))) pss_nil)
      (pss_cons (ps_if (pt_not (pt_chain op_le op_le pe_int (pv 1) pe_int)) (pss_one (ps_ret (pe_tup (pa_cons pe_str (pa_cons pe_non pa_nil))))) pss_nil)
      (pss_cons (ps_if (pt_cmpR op_gt (pe_callB (call_len_seq) (by rfl) T.z_len (by decide +kernel) (pa_cons (pv 2) pa_nil)) pe_int (nomark _)) (pss_one (ps_ret (pe_tup (pa_cons pe_str (pa_cons pe_non pa_nil))))) pss_nil)
      (pss_cons (ps_setLc (i := 5) (own := [("k", 6), ("step", 7)]) rfl sc_law_fault.nd rfl rfl (sw_true rfl rfl rfl (by decide +kernel)) (My.pi_enumT (by rfl) T.z_enumerate (pa_cons (pv 2) pa_nil)) (blkOk_by (own := [("k", 6), ("step", 7)]) (N := ["low", "high", "steps", "moves", "fade", "wrong", "k", "step", "move"]) (sc := defScope s_law_fault) (by decide +kernel)) (fun _ _ _ _ _ => (My.pg_tupK (K := K) (n := 2) rfl (pgs_cons (pg_name (i := 6) sc_law_fault.nd rfl (Or.inl rfl)) (pgs_cons (pg_name (i := 7) sc_law_fault.nd rfl (Or.inl rfl)) pgs_nil)))) (fun _ _ _ _ _ => pts_one (pt_not (pt_chain op_le op_le pe_int (pv 7) pe_int))) (fun _ _ _ _ _ => (pv 6)))
      (pss_cons (ps_if (pt_cmpR (My.op_neNil hr.units) (pv 5) (pe_lst pa_nil) (nomark _)) (pss_one (ps_ret (pe_tup (pa_cons pe_str (pa_cons (pe_ix ix_list (pv 5) pe_int (fun _ _ => rfl)) pa_nil))))) pss_nil)
      (pss_cons (ps_if (pt_not (pt_chain op_le op_le pe_int (pe_callB (call_len_seq) (by rfl) T.z_len (by decide +kernel) (pa_cons (pv 3) pa_nil)) pe_int)) (pss_one (ps_ret (pe_tup (pa_cons pe_str (pa_cons pe_non pa_nil))))) pss_nil)
      (pss_cons (ps_setLc (i := 5) (own := [("k", 6), ("move", 8)]) rfl sc_law_fault.nd rfl rfl (sw_true rfl rfl rfl (by decide +kernel)) (My.pi_enumT (by rfl) T.z_enumerate (pa_cons (pv 3) pa_nil)) (blkOk_by (own := [("k", 6), ("move", 8)]) (N := ["low", "high", "steps", "moves", "fade", "wrong", "k", "step", "move"]) (sc := defScope s_law_fault) (by decide +kernel)) (fun _ _ _ _ _ => (My.pg_tupK (K := K) (n := 2) rfl (pgs_cons (pg_name (i := 6) sc_law_fault.nd rfl (Or.inl rfl)) (pgs_cons (pg_name (i := 8) sc_law_fault.nd rfl (Or.inl rfl)) pgs_nil)))) (fun _ _ _ _ _ => pts_one (pt_not (pt_val (pe_call (ok_law_is_pair T) (hr.mono (by decide)) (by rfl) T.g__law_is_pair T.F__law_is_pair.kp T.b__law_is_pair .nil pass0 (pa_cons (pv 8) pa_nil))))) (fun _ _ _ _ _ => (pv 6)))
      (pss_cons (ps_if (pt_cmpR (My.op_neNil hr.units) (pv 5) (pe_lst pa_nil) (nomark _)) (pss_one (ps_ret (pe_tup (pa_cons pe_str (pa_cons (pe_ix ix_list (pv 5) pe_int (fun _ _ => rfl)) pa_nil))))) pss_nil)
      (pss_one (ps_ret (pe_ifExp (PW.pt (pw_or (pt_cmpR op_eq (pv 4) pe_int (nomark _)) (pw_or1 (pt_chain op_le op_le pe_int (pv 4) pe_int)))) pe_non (pe_tup (pa_cons pe_str (pa_cons pe_non pa_nil))))))))))))))
, ?_⟩
    have q : ∀ e z H', firstF C.dat = e → Same H H' → Dp K H' z e → Q z H' := fun e z H' he s hz => q z H' s (he ▸ hz)
    have word : ∀ (x : Str) H', firstF C.dat = .tuple [.str x, .none] → Same H H' → ∀ p, H' p = none → Q (.ref p) (upd H' p (.tup [V.str x, V.non])) := fun x H' he s p hp =>
      q _ _ _ he (s.trans (same_new hp)) (.tup upd_tup (.cons (.str _) (.cons .non .nil)))
    have wordN : ∀ (x : Str) (k : Nat) H', firstF C.dat = .tuple [.str x, .int (k : Int)] → Same H H' → ∀ p, H' p = none → Q (.ref p) (upd H' p (.tup [V.str x, V.int (k : Int)])) := fun x k H' he s p hp =>
      q _ _ _ he (s.trans (same_new hp)) (.tup upd_tup (.cons (.str _) (.cons (.int _) .nil)))
    have bl : btw (.int C.low) (-32768) 0 = (decide (-32768 ≤ C.low) && decide (C.low ≤ 0)) := rfl
    have bh : btw (.int C.high) 0 32767 = (decide (0 ≤ C.high) && decide (C.high ≤ 32767)) := rfl
    have sl : (C.steps.map V.int).length = C.steps.length := List.length_map ..
    have ml : ms.length = C.moves.length := by rw [dpAll_len hmd, List.length_map]
    -- low
    refine ⟨32768, rfl, _, rfl, _, _, rfl, rfl, _, rfl, ?_⟩
    by_cases h1 : -32768 ≤ C.low
    case neg =>
      rw [decide_eq_false h1] at bl ⊢
      refine iteF ⟨_, rfl, iteT ?_⟩
      exact ⟨by show 2 ≤ sizeLine; decide, word "low" H (cod_low bl) (Same.refl _)⟩
    rw [decide_eq_true h1] at bl ⊢
    refine iteT ⟨_, _, rfl, rfl, _, rfl, ?_⟩
    by_cases h2 : C.low ≤ 0
    case neg =>
      rw [decide_eq_false h2] at bl ⊢
      refine iteT ?_
      exact ⟨by show 2 ≤ sizeLine; decide, word "low" H (cod_low bl) (Same.refl _)⟩
    rw [decide_eq_true h2] at bl ⊢
    refine iteF ?_
    -- high
    refine ⟨_, rfl, _, _, rfl, rfl, _, rfl, ?_⟩
    by_cases h3 : 0 ≤ C.high
    case neg =>
      rw [decide_eq_false h3] at bh ⊢
      refine iteF ⟨_, rfl, iteT ?_⟩
      exact ⟨by show 2 ≤ sizeLine; decide, word "high" H (cod_high bl bh) (Same.refl _)⟩
    rw [decide_eq_true h3] at bh ⊢
    refine iteT ⟨_, _, rfl, rfl, _, rfl, ?_⟩
    by_cases h4 : C.high ≤ 32767
    case neg =>
      rw [decide_eq_false h4] at bh ⊢
      refine iteT ?_
      exact ⟨by show 2 ≤ sizeLine; decide, word "high" H (cod_high bl bh) (Same.refl _)⟩
    rw [decide_eq_true h4] at bh ⊢
    refine iteF ?_
    -- how many steps
    refine ⟨_, rfl, sa, _, rfl, .inr hs, _, _, rfl, rfl, _, rfl, ?_⟩
    by_cases h5 : C.steps.length ≤ 16
    case neg =>
      rw [decide_eq_true (show (16 : Int) < ((C.steps.map V.int).length : Int) by rw [sl]; omega)]
      refine iteT ?_
      exact ⟨by show 2 ≤ sizeLine; decide, word "steps" H (cod_steps bl bh (rowF_len (by rw [List.length_map]; omega))) (Same.refl _)⟩
    rw [decide_eq_false (show ¬ (16 : Int) < ((C.steps.map V.int).length : Int) by rw [sl]; omega)]
    refine iteF ?_
    have hsF : stepsF (.tuple (C.steps.map .int)) = faultD "steps" (badAt (btw · 1 9999) 0 (C.steps.map .int)) := rowF_in (by rw [List.length_map]; omega)
    rw [wrongP_head, List.length_map] at hsF
    -- which step
    refine ⟨_, rfl, sa, _, rfl, hs, fun W hW => ?_⟩
    refine lc_it (walk_enumT (K := K) (a := sa) (xs := C.steps.map V.int)) (fun i H' => H' W = some (.lst ((natI (wrongP (btw · 1 9999) (C.steps.map .int) i)).map V.int)) ∧ Same H H') ⟨upd_same, same_new hW⟩ ?_ ?_ ?_
    · rintro i H' _ ⟨_, s3⟩
      exact same_tup s3 hs
    · rintro i x H3 H3' hi ⟨hW3, s3⟩ ⟨T', x', y', rfl, hT, rfl, hx, hy⟩
      cases Option.some.inj hx
      obtain ⟨n, hn, rfl⟩ := map_get hy
      have s4' := same_new (o := .tup [V.int (i : Nat), V.int n]) hT
      have s4 := s3.trans s4'
      have hW4 := s4' _ _ hW3
      refine ⟨T', _, rfl, upd_tup, rfl, _, _, rfl, _, _, rfl, rfl, ?_⟩
      generalize upd H3 T' (.tup [V.int (i : Nat), V.int n]) = H4 at s4 hW4
      have hil : i < C.steps.length := (List.getElem?_eq_some_iff.mp hn).1
      have hsz : ((natI (wrongP (btw · 1 9999) (C.steps.map .int) i)).map V.int).length < sizeLine := by
        unfold natI
        rw [List.length_map, List.length_map]
        have := wrongP_len (p := (btw · 1 9999)) (ds := C.steps.map .int) (i := i)
        exact lt_line (by omega)
      have hnx := wrongP_succ (p := (btw · 1 9999)) (ds := C.steps.map .int) (get_map hn)
      have hb : btw (.int n) 1 9999 = (decide (1 ≤ n) && decide (n ≤ 9999)) := rfl
      have keep : btw (.int n) 1 9999 = true → H4 W = some (.lst ((natI (wrongP (btw · 1 9999) (C.steps.map .int) (i + 1))).map V.int)) ∧ Same H H4 := fun h => by
        rw [h, if_pos rfl, List.append_nil] at hnx
        rw [hnx]
        exact ⟨hW4, s4⟩
      have put : btw (.int n) 1 9999 = false → ∃ acc, H4 W = some (.lst acc) ∧ acc.length < sizeLine ∧ (upd H4 W (.lst (acc ++ [V.int (i : Nat)]))) W = some (.lst ((natI (wrongP (btw · 1 9999) (C.steps.map .int) (i + 1))).map V.int)) ∧ Same H (upd H4 W (.lst (acc ++ [V.int (i : Nat)]))) := fun h => by
        rw [h, if_neg (by decide)] at hnx
        refine ⟨_, hW4, hsz, ?_, fun b o hb => ?_⟩
        · rw [upd_same, hnx]
          unfold natI
          rw [List.map_append, List.map_append]
          rfl
        · rw [upd_ne (ne_of_none hb hW)]
          exact s4 b o hb
      refine ⟨rfl, _, rfl, _, _, rfl, rfl, _, rfl, ?_⟩
      by_cases g1 : 1 ≤ n
      case neg =>
        rw [decide_eq_false g1] at hb ⊢
        exact iteF ⟨_, rfl, iteT ⟨_, rfl, put (by rw [hb]; rfl)⟩⟩
      rw [decide_eq_true g1] at hb ⊢
      refine iteT ⟨_, _, rfl, rfl, _, rfl, ?_⟩
      by_cases g2 : n ≤ 9999
      · rw [decide_eq_true g2] at hb ⊢
        exact iteF (keep (by rw [hb]; rfl))
      · rw [decide_eq_false g2] at hb ⊢
        exact iteT ⟨_, rfl, put (by rw [hb]; rfl)⟩
    rintro H1 ⟨hW1, s1⟩
    rw [show (C.steps.map V.int).length = C.steps.length from sl] at hW1
    refine ⟨_, rfl, Nat.zero_le _, fun p hp => ?_⟩
    have s2' := same_new (o := .lst []) hp
    have hW2 := s2' _ _ hW1
    refine ⟨W, p, _, rfl, rfl, SqL.of hW2, SqL.of upd_same, _, rfl, ?_⟩
    have s2 := s1.trans s2'
    generalize upd H1 p (.lst []) = H2 at s2 hW2
    cases hWs : wrongP (btw · 1 9999) (C.steps.map .int) C.steps.length with
    | cons k r =>
      rw [hWs] at hsF hW2
      refine iteT ?_
      exact ⟨_, rfl, W, _, 0, .int (k : Int), rfl, rfl, SqL.of hW2, atI_nat (j := 0) rfl, by show 2 ≤ sizeLine; decide, wordN "steps" k H2 (cod_steps bl bh hsF) s2⟩
    | nil =>
    rw [hWs] at hsF hW2
    have hsF : stepsF (.tuple (C.steps.map .int)) = .none := hsF
    refine iteF ?_
    -- how many moves
    refine ⟨_, rfl, ma, _, rfl, .inr (same_tup s2 hm), _, _, rfl, rfl, _, rfl, ?_⟩
    by_cases h6 : 2 ≤ C.moves.length
    case neg =>
      rw [decide_eq_false (show ¬ (2 : Int) ≤ (ms.length : Int) by rw [ml]; omega)]
      refine iteF ⟨_, rfl, iteT ?_⟩
      exact ⟨by show 2 ≤ sizeLine; decide, word "moves" H2 (cod_moves bl bh hsF (rowF_len (by rw [List.length_map]; omega))) s2⟩
    rw [decide_eq_true (show (2 : Int) ≤ (ms.length : Int) by rw [ml]; omega)]
    refine iteT ⟨_, _, rfl, rfl, _, rfl, ?_⟩
    by_cases h7 : C.moves.length ≤ 16
    case neg =>
      rw [decide_eq_false (show ¬ (ms.length : Int) ≤ 16 by rw [ml]; omega)]
      refine iteT ?_
      exact ⟨by show 2 ≤ sizeLine; decide, word "moves" H2 (cod_moves bl bh hsF (rowF_len (by rw [List.length_map]; omega))) s2⟩
    rw [decide_eq_true (show (ms.length : Int) ≤ 16 by rw [ml]; omega)]
    refine iteF ?_
    have hmF : movesF (.tuple (C.moves.map pairI)) = faultD "moves" (badAt moveD 0 (C.moves.map pairI)) := rowF_in (by rw [List.length_map]; omega)
    rw [wrongP_head, List.length_map] at hmF
    have hm2 := same_tup s2 hm
    have hmd2 := dpAll_same s2 _ _ hmd
    -- which move
    refine ⟨_, rfl, ma, _, rfl, hm2, fun W2 hW2' => ?_⟩
    refine lc_it (walk_enumT (K := K) (a := ma) (xs := ms)) (fun i H' => H' W2 = some (.lst ((natI (wrongP moveD (C.moves.map pairI) i)).map V.int)) ∧ Same H2 H') ⟨upd_same, same_new hW2'⟩ ?_ ?_ ?_
    · rintro i H' _ ⟨_, s3⟩
      exact same_tup s3 hm2
    · rintro i x H3 H3' hi ⟨hW3, s3⟩ ⟨T', x', y', rfl, hT, rfl, hx, hy⟩
      cases Option.some.inj hx
      have hil : i < C.moves.length := by rw [← ml]; exact hi
      obtain ⟨qa, hq1, hq2⟩ := move_at hmd2 hil
      have hy : ms[i]? = some y' := hy
      rw [hy] at hq1
      cases hq1
      have hp' : C.moves[i]? = some (C.moves.getD i (0, 0)) := by
        rw [List.getD_eq_getElem?_getD, List.getElem?_eq_getElem hil]
        rfl
      generalize C.moves.getD i (0, 0) = pr at hq2 hp'
      have s4' := same_new (o := .tup [V.int (i : Nat), V.ref qa]) hT
      have s4 := s3.trans s4'
      have hW4 := s4' _ _ hW3
      refine ⟨T', _, rfl, upd_tup, rfl, _, _, rfl, _, _, rfl, rfl, ?_⟩
      generalize upd H3 T' (.tup [V.int (i : Nat), V.ref qa]) = H4 at s4 hW4
      have hsz : ((natI (wrongP moveD (C.moves.map pairI) i)).map V.int).length < sizeLine := by
        unfold natI
        rw [List.length_map, List.length_map]
        have := wrongP_len (p := moveD) (ds := C.moves.map pairI) (i := i)
        exact lt_line (by omega)
      have hnx := wrongP_succ (p := moveD) (ds := C.moves.map pairI) (get_map hp')
      refine ⟨rfl, _, rfl, qa, pr.1, pr.2, rfl, same_tup s4 hq2, _, rfl, ?_⟩
      show if (!moveD (pairI pr)) = true then _ else _
      cases hg : moveD (pairI pr) with
      | true =>
        rw [hg, if_pos rfl, List.append_nil] at hnx
        refine iteF ⟨?_, s4⟩
        rw [hnx]
        exact hW4
      | false =>
        rw [hg, if_neg (by decide)] at hnx
        refine iteT ?_
        refine ⟨_, rfl, _, hW4, hsz, ?_, fun b o hb => ?_⟩
        · rw [upd_same, hnx]
          unfold natI
          rw [List.map_append, List.map_append]
          rfl
        · rw [upd_ne (ne_of_none hb hW2')]
          exact s4 b o hb
    rintro H3 ⟨hW3, s3'⟩
    rw [ml] at hW3
    have s3 := s2.trans s3'
    refine ⟨_, rfl, Nat.zero_le _, fun p4 hp4 => ?_⟩
    have s4' := same_new (o := .lst []) hp4
    have hW4 := s4' _ _ hW3
    refine ⟨W2, p4, _, rfl, rfl, SqL.of hW4, SqL.of upd_same, _, rfl, ?_⟩
    have s4 := s3.trans s4'
    generalize upd H3 p4 (.lst []) = H4 at s4 hW4
    cases hWm : wrongP moveD (C.moves.map pairI) C.moves.length with
    | cons k r =>
      rw [hWm] at hmF hW4
      refine iteT ?_
      exact ⟨_, rfl, W2, _, 0, .int (k : Int), rfl, rfl, SqL.of hW4, atI_nat (j := 0) rfl, by show 2 ≤ sizeLine; decide, wordN "moves" k H4 (cod_moves bl bh hsF hmF) s4⟩
    | nil =>
    rw [hWm] at hmF hW4
    have hmF : movesF (.tuple (C.moves.map pairI)) = .none := hmF
    refine iteF ?_
    -- fade
    have hf := cod_fade bl bh hsF hmF
    have fd : fadeD (.int C.fade) = ((decide (0 ≤ C.fade) && decide (C.fade ≤ 0)) || (decide (2 ≤ C.fade) && decide (C.fade ≤ 99))) := rfl
    refine ⟨_, rfl, rfl, _, rfl, ?_⟩
    show if decide (V.int C.fade = V.int 0) = true then _ else _
    by_cases f0 : C.fade = 0
    · rw [decide_eq_true (by rw [f0] : V.int C.fade = V.int 0)]
      refine iteT (iteT ?_)
      refine q .none _ _ ?_ s4 .non
      rw [hf, fd, f0]
      rfl
    rw [decide_eq_false (fun z => f0 (V.int.inj z) : ¬ V.int C.fade = V.int 0)]
    refine iteF ?_
    have fd : fadeD (.int C.fade) = (decide (2 ≤ C.fade) && decide (C.fade ≤ 99)) := by
      rw [fd]
      by_cases g : 0 ≤ C.fade
      · rw [decide_eq_false (p := C.fade ≤ 0) (by omega), Bool.and_false, Bool.false_or]
      · rw [decide_eq_false (p := 0 ≤ C.fade) g, Bool.false_and, Bool.false_or]
    refine ⟨_, rfl, _, _, rfl, rfl, _, rfl, ?_⟩
    by_cases g1 : 2 ≤ C.fade
    case neg =>
      rw [decide_eq_false g1] at fd ⊢
      refine iteF ⟨_, rfl, iteF ?_⟩
      exact ⟨by show 2 ≤ sizeLine; decide, word "fade" H4 (by rw [hf, fd]; rfl) s4⟩
    rw [decide_eq_true g1] at fd ⊢
    refine iteT ⟨_, _, rfl, rfl, _, rfl, ?_⟩
    by_cases g2 : C.fade ≤ 99
    · rw [decide_eq_true g2] at fd ⊢
      refine iteT ?_
      exact q .none _ _ (by rw [hf, fd]; rfl) s4 .non
    · rw [decide_eq_false g2] at fd ⊢
      refine iteF ?_
      exact ⟨by show 2 ≤ sizeLine; decide, word "fade" H4 (by rw [hf, fd]; rfl) s4⟩
end
end My

set_option pp.maxSteps 150
namespace My
open PySem PySem.Spec PyProof.Rows L2
theorem fltV_out {e : PyData} {y z : V} (h : FltV e y z) : isN e = false := by
  cases h <;> rfl
section
variable {P : Program} {w : World} {K : PySem.W.Frag} {mg : Str → Option Value} {base : Heap}
def sp_outcome (K : PySem.W.Frag) : Sp := fun vs H Q _ => ∃ (x : V) (r : Option Str), vs = [x] ∧ ThS K H x r ∧ (∀ t, r = some t → t.length ≤ 90000) ∧ ∀ v H', Same H H' → Dp K H' v (outC r) → Q v H'
theorem ok_law_outcome (T : Txt K mg) : FnOk P w K mg base CX0 8 T.f__law_outcome T.d__law_outcome ["text"] (sp_outcome K) := by
  refine T.F__law_outcome.ok sc_law_outcome (fun vs H Q E h => ?_) (fun cdv A outer s H vs Q E hr h => ?_)
  · obtain ⟨x, r, rfl, _⟩ := h
    rfl
  · obtain ⟨x, r, rfl, hx, hlen, q⟩ := h
    refine ⟨_,
(pss_cons (ps_set (i := 1) sc_law_outcome.nd rfl (Or.inl rfl) pe_str)
      (pss_cons (My.ps_try_hs rfl rfl sc_law_outcome.nd takes0 (fun W pn xe tk po => (pss_one (ps_set (i := 1) sc_law_outcome.nd rfl (Or.inl rfl) (pe_lst (pa_cons (pe_callS (ok_read_coder T) (hr.mono (by decide)) (by rfl) T.g_read_coder T.F_read_coder.kp T.b_read_coder (fun σ => passAt tk σ) (pa_cons (pv 0) pa_nil)) pa_nil))))) (.as (i := 2) rfl rfl ⟨by rfl, by decide, .inl T.g_BadRow⟩ (fun a oe cls d pn hz hf => (pss_one (ps_set (i := 1) sc_law_outcome.nd rfl (Or.inl rfl) (pe_tup (pa_cons pe_str (pa_cons (pe_xf T.x_BadRow T.n_BadRow_row hz hf (pv 2)) (pa_cons (pe_xf T.x_BadRow T.n_BadRow_word hz hf (pv 2)) pa_nil))))))) (.as (i := 2) rfl rfl ⟨by rfl, by decide, .inl T.g_BadCoder⟩ (fun a oe cls d pn hz hf => (pss_one (ps_set (i := 1) sc_law_outcome.nd rfl (Or.inl rfl) (pe_tup (pa_cons pe_str (pa_cons (pe_xf T.x_BadCoder T.n_BadCoder_part hz hf (pv 2)) (pa_cons (pe_xf T.x_BadCoder T.n_BadCoder_number hz hf (pv 2)) pa_nil))))))) .nil)))
      (pss_one (ps_ret (pv 1)))))
, ?_⟩
    have rowOut : ∀ i j : Int, outC r = .tuple [.str "row", .int i, .int j] → ∀ H', Same H H' → ∀ p, H' p = none → Q (.ref p) (upd H' p (.tup [V.str "row", V.int i, V.int j])) := fun i j h H' s p hp =>
      q _ _ (s.trans (same_new hp)) (by rw [h]; exact .tup upd_tup (.cons (.str _) (.cons (.int _) (.cons (.int _) .nil))))
    refine ⟨x, rfl, x, r, rfl, hx, hlen, fun t ht h0 hn z H1 s1 hz => ?_, fun h0 d H1 s1 hd => ?_, fun t i j ht h0 d H1 s1 hd => ?_, fun t ht h0 y z hf d H1 s1 hd => ?_⟩
    · refine ⟨by show 1 ≤ sizeLine; decide, fun L hL => ⟨_, rfl, q _ _ (s1.trans (same_new hL)) ?_⟩⟩
      subst ht
      rw [outC_cod h0, hn]
      exact .lst (SqL.of upd_same) (.cons (dp_same (same_new hL) _ _ hz) .nil)
    · refine ⟨true, T.e_BadRow, fun _ a ha => ?_, fun z => nomatch z⟩
      subst h0
      exact ⟨_, rfl, rfl, rfl, d, _, _, rfl, hd, rfl, _, rfl, rfl, rfl, d, _, _, rfl, hd, rfl, by show 3 ≤ sizeLine; decide, fun p hp => ⟨_, rfl, rowOut 0 0 rfl H1 s1 p hp⟩⟩
    · refine ⟨true, T.e_BadRow, fun _ a ha => ?_, fun z => nomatch z⟩
      subst ht
      exact ⟨_, rfl, rfl, rfl, d, _, _, rfl, hd, rfl, _, rfl, rfl, rfl, d, _, _, rfl, hd, rfl, by show 3 ≤ sizeLine; decide, fun p hp => ⟨_, rfl, rowOut i j (outC_row h0) H1 s1 p hp⟩⟩
    · refine ⟨false, T.e_BadCoder_BadRow, fun z => (nomatch z), fun _ => ⟨true, T.e_BadCoder, fun _ a ha => ?_, fun z => nomatch z⟩⟩
      subst ht
      have e := outC_cod h0
      rw [fltV_out hf, if_neg (by decide)] at e
      refine ⟨_, rfl, rfl, rfl, d, _, _, rfl, hd, rfl, _, rfl, rfl, rfl, d, _, _, rfl, hd, rfl, by show 3 ≤ sizeLine; decide, fun p hp => ⟨_, rfl, q _ _ (s1.trans (same_new hp)) ?_⟩⟩
      rw [e]
      have : ∀ {e : PyData} {y z : V}, FltV e y z → Dp K (upd H1 p (.tup [V.str "coder", y, z])) (.ref p) (outF e) := fun h => by
        cases h with
        | non s => exact .tup upd_tup (.cons (.str _) (.cons (.str _) (.cons .non .nil)))
        | int s k => exact .tup upd_tup (.cons (.str _) (.cons (.str _) (.cons (.int _) .nil)))
      exact this hf
def sp_due (K : PySem.W.Frag) : Sp := fun vs H Q _ => ∃ t : Str, vs = [.str t] ∧ t.length ≤ 90000 ∧ ∀ v H', Same H H' → Dp K H' v (outC (some t)) → Q v H'
/-- the rows' numbers as tuples, at ps -/
structure TupsAt (W : List (List Str)) (H : Hp) (ps : List Addr) (k : Nat) : Prop where
  len : ps.length = k
  st : ∀ (i : Nat) (p : Addr) (ws : List Str), ps[i]? = some p → W[i]? = some ws → H p = some (.tup ((numsOf ws).map V.int))
theorem dpAll_of {K : PySem.W.Frag} {H : Hp} : ∀ {xs : List V} {ds : List PyData}, xs.length = ds.length → (∀ (i : Nat) (x : V) (d : PyData), xs[i]? = some x → ds[i]? = some d → Dp K H x d) → DpAll K H xs ds
  | [], [], _, _ => .nil
  | [], _ :: _, h, _ => by cases h
  | _ :: _, [], h, _ => by cases h
  | x :: xs, d :: ds, h, hp => .cons (hp 0 x d rfl rfl) (dpAll_of (Nat.succ.inj h) fun i y e hy he => hp (i + 1) y e hy he)
theorem menu_k {k : Nat} {m1 m2 m3 : V} : ∃ j : Nat, (if (2 : Int) < (k : Int) then (2 : Int) else (k : Int)) = (j : Int) ∧ [m1, m2, m3][j]? = some (if k = 0 then m1 else if k = 1 then m2 else m3) := by
  by_cases h : (2 : Int) < (k : Int)
  · rw [if_pos h]
    exact ⟨2, rfl, by rw [if_neg (by omega), if_neg (by omega)]; rfl⟩
  · rw [if_neg h]
    refine ⟨k, rfl, ?_⟩
    have : k = 0 ∨ k = 1 ∨ k = 2 := by omega
    rcases this with e | e | e <;> subst e <;> rfl
set_option maxHeartbeats 4000000 in
theorem ok_law_due (T : Txt K mg) : FnOk P w K mg base CX0 4 T.f__law_due T.d__law_due ["text"] (sp_due K) := by
  refine T.F__law_due.ok sc_law_due (fun vs H Q E h => ?_) (fun cdv A outer s H vs Q E hr h => ?_)
  · obtain ⟨t, rfl, _⟩ := h
    rfl
  · obtain ⟨t, rfl, hlen, q⟩ := h
    refine ⟨_,
(pss_cons (ps_set (i := 1) sc_law_due.nd rfl (Or.inl rfl) (pe_bm PySem.F.plainAttrs_str PySem.F.slot_str_split PySem.F.type_str_split mt_split (pv 0) (pa_cons pe_str pa_nil)))
      (pss_cons (ps_for PassesOwn.never rfl (pi_enum (by rfl) T.z_enumerate (pa_cons (pv 1) pa_nil)) (pg_tup (by rfl) (pgs_cons (pg_name (i := 2) sc_law_due.nd rfl (Or.inl rfl)) (pgs_cons (pg_name (i := 3) sc_law_due.nd rfl (Or.inl rfl)) pgs_nil))) (pss_cons (ps_set (i := 4) sc_law_due.nd rfl (Or.inl rfl) (pe_bm PySem.F.plainAttrs_str PySem.F.slot_str_split PySem.F.type_str_split mt_split (pv 3) (pa_cons pe_str pa_nil)))
      (pss_cons (ps_asg (pe_ix ix_list (pe_lst (pa_cons (pe_tup (pa_cons pe_str (pa_cons pe_int (pa_cons pe_int pa_nil)))) (pa_cons (pe_tup (pa_cons pe_str (pa_cons pe_int (pa_cons (pe_op op_pow pe_int pe_int) pa_nil)))) (pa_cons (pe_tup (pa_cons pe_str (pa_cons pe_int (pa_cons pe_int pa_nil)))) pa_nil)))) (pe_callB (call_min2 rfl) (by rfl) T.z_min (by decide +kernel) (pa_cons (pv 2) (pa_cons pe_int pa_nil))) (fun _ _ => rfl)) (pg_tup (by rfl) (pgs_cons (pg_name (i := 5) sc_law_due.nd rfl (Or.inl rfl)) (pgs_cons (pg_name (i := 6) sc_law_due.nd rfl (Or.inl rfl)) (pgs_cons (pg_name (i := 7) sc_law_due.nd rfl (Or.inl rfl)) pgs_nil)))))
      (pss_cons (ps_set (i := 8) sc_law_due.nd rfl (Or.inl rfl) (pe_call (ok_law_row_fault T) (hr.mono (by decide)) (by rfl) T.g__law_row_fault T.F__law_row_fault.kp T.b__law_row_fault .nil pass0 (pa_cons (pv 4) (pa_cons (pv 5) (pa_cons (pv 6) (pa_cons (pv 7) pa_nil))))))
      (pss_one (ps_if (pt_cmpR op_notN (pv 8) pe_non (nomark _)) (pss_one (ps_ret (pe_tup (pa_cons pe_str (pa_cons (pe_op op_add (pv 2) pe_int) (pa_cons (pv 8) pa_nil)))))) pss_nil))))))
      (pss_cons (ps_if (pt_cmpR op_lt (pe_callB (call_len_seq) (by rfl) T.z_len (by decide +kernel) (pa_cons (pv 1) pa_nil)) pe_int (nomark _)) (pss_one (ps_ret (pe_tup (pa_cons pe_str (pa_cons pe_int (pa_cons pe_int pa_nil)))))) pss_nil)
      (pss_cons (ps_setLc (i := 9) (own := [("row", 3)]) rfl sc_law_due.nd rfl rfl (sw_true rfl rfl rfl (by decide +kernel)) (pi_list (pv 1)) (blkOk_by (own := [("row", 3)]) (N := ["text", "rows", "k", "row", "words", "name", "least", "most", "fault", "told", "word"]) (sc := defScope s_law_due) (by decide +kernel)) (fun _ _ _ _ _ => (pg_name (i := 3) sc_law_due.nd rfl (Or.inl rfl))) (fun _ _ _ _ _ => pts_nil) (fun _ _ _ _ _ => (pe_callTy (My.call_tuple_ofK (K := K)) (by rfl) T.z_tuple (by decide +kernel) (pa_cons (pe_lc (own := [("word", 10)]) rfl sc_law_due.nd (My.pi_listK (K := K) (pe_slice (My.sl_listK (K := K)) (My.pe_bmK (K := K) PySem.F.plainAttrs_str PySem.F.slot_str_split PySem.F.type_str_split mt_split (pv 3) (pa_cons pe_str pa_nil)) (po_some pe_int) po_none)) (blkOk_by (own := [("word", 10)]) (N := ["text", "rows", "k", "row", "words", "name", "least", "most", "fault", "told", "word"]) (sc := My.scOf ((defBody s_law_due).getD 3 (.Pass ⟨0, 0, 0, 0⟩))) (by decide +kernel)) (fun _ _ _ _ _ => (pg_name (i := 10) sc_law_due.nd rfl (Or.inl rfl))) (fun _ _ _ _ _ => pts_nil) (fun _ _ _ _ _ => (pe_callTy call_int_str (by rfl) T.z_int (by decide +kernel) (pa_cons (pv 10) pa_nil)))) pa_nil))))
      (pss_cons (ps_set (i := 8) sc_law_due.nd rfl (Or.inl rfl) (pe_call (ok_law_fault T) (hr.mono (by decide)) (by rfl) T.g__law_fault T.F__law_fault.kp T.b__law_fault .nil pass0 (pa_cons (pe_ix ix_tup (pe_ix ix_list (pv 9) pe_int (fun _ _ => rfl)) pe_int (fun _ _ => rfl)) (pa_cons (pe_ix ix_tup (pe_ix ix_list (pv 9) pe_int (fun _ _ => rfl)) pe_int (fun _ _ => rfl)) (pa_cons (pe_ix ix_list (pv 9) pe_int (fun _ _ => rfl)) (pa_cons (pe_callTy call_tuple_of (by rfl) T.z_tuple (by decide +kernel) (pa_cons (pe_slice sl_list (pv 9) (po_some pe_int) po_none) pa_nil)) (pa_cons (pe_ix ix_tup (pe_ix ix_list (pv 9) pe_int (fun _ _ => rfl)) pe_int (fun _ _ => rfl)) pa_nil)))))))
      (pss_cons (ps_if (pt_cmpR op_notN (pv 8) pe_non (nomark _)) (pss_one (ps_ret (pe_tup (pa_cons pe_str (pa_cons (pe_ix ix_tup (pv 8) pe_int (fun _ _ => rfl)) (pa_cons (pe_ix ix_tup (pv 8) pe_int (fun _ _ => rfl)) pa_nil)))))) pss_nil)
      (pss_one (ps_ret (pe_lst (pa_cons (pe_tup (pa_cons (pe_ix ix_tup (pe_ix ix_list (pv 9) pe_int (fun _ _ => rfl)) pe_int (fun _ _ => rfl)) (pa_cons (pe_ix ix_tup (pe_ix ix_list (pv 9) pe_int (fun _ _ => rfl)) pe_int (fun _ _ => rfl)) (pa_cons (pe_ix ix_list (pv 9) pe_int (fun _ _ => rfl)) (pa_cons (pe_callTy call_tuple_of (by rfl) T.z_tuple (by decide +kernel) (pa_cons (pe_slice sl_list (pv 9) (po_some pe_int) po_none) pa_nil)) (pa_cons (pe_ix ix_tup (pe_ix ix_list (pv 9) pe_int (fun _ _ => rfl)) pe_int (fun _ _ => rfl)) pa_nil)))))) pa_nil))))))))))
, ?_⟩
    have wlen : ∀ r ∈ Txt.split t "\n", (Txt.split r " ").length ≤ 100000 ∧ ∀ w ∈ Txt.split r " ", w.length ≤ 1000000 := fun r hr => by
      have h1 := lines_mem hr
      have h2 := split_count r
      exact ⟨by omega, fun w hw => by have := words_mem hw; omega⟩
    have hlc := lines_count t
    refine ⟨_, rfl, rfl, t, "\n", rfl, rfl, by decide +kernel, by show t.length + 2 ≤ sizeLine; exact sz_line (by omega), fun L hL => ?_⟩
    have s1 := same_new (o := .lst ((Txt.split t "\n").map V.str)) hL
    have hL1 : (upd H L (.lst ((Txt.split t "\n").map V.str))) L = some (.lst (strV (Txt.split t "\n"))) := upd_same
    generalize upd H L (.lst ((Txt.split t "\n").map V.str)) = H1 at s1 hL1
    have hrow : ∀ r ∈ Txt.split t "\n", r.length ≤ 90001 := fun r hr => by have := lines_mem hr; omega
    have hW : rowsOf t = (Txt.split t "\n").map fun r => Txt.split r " " := rfl
    have oR := @outC_row t
    have oC := @outC_cod t
    generalize Txt.split t "\n" = ls at hL1 wlen hlc hrow hW
    generalize rowsOf t = W at oR oC hW
    have hWl : W.length = ls.length := by rw [hW, List.length_map]
    have hWat : ∀ {i : Nat} {r : Str}, ls[i]? = some r → W[i]? = some (Txt.split r " ") := fun {i r} h => by rw [hW]; exact get_map h
    -- the rows
    refine ⟨_, rfl, L, _, rfl, SqL.of hL1, ?_⟩
    refine for_it (walk_enum (K := K) (a := L) (xs := strV ls)) (fun i σ H' => ∃ y2 y3 y4 y5 y6 y7 y8, σ = [some (.str t), some (.ref L), y2, y3, y4, y5, y6, y7, y8, none, none] ∧ Same H1 H' ∧ ∀ j ws, j < i → W[j]? = some ws → rowFk j ws = none) ⟨none, none, none, none, none, none, none, rfl, Same.refl H1, fun j ws hj => by omega⟩ ?_ ?_ ?_
    · rintro i σ H' _ ⟨_, _, _, _, _, _, _, _, s3, _⟩
      exact s3.seq (SqL.of hL1)
    · rintro i x σ H3 H3' hi ⟨y2, y3, y4, y5, y6, y7, y8, rfl, s3, hall⟩ ⟨T', x', y', rfl, hT, rfl, hx, hy⟩
      cases Option.some.inj hx
      obtain ⟨r, hr', rfl⟩ := map_get hy
      have hWi := hWat hr'
      obtain ⟨l1, l2⟩ := wlen r (get_mem hr')
      have l3 := split_ne r
      have hrl := hrow r (get_mem hr')
      have s4 := s3.trans (same_new (o := .tup [V.int (i : Nat), V.str r]) hT)
      refine ⟨T', _, rfl, upd_tup, rfl, _, _, rfl, _, _, rfl, rfl, ?_⟩
      generalize upd H3 T' (.tup [V.int (i : Nat), V.str r]) = H4 at s4
      refine ⟨_, rfl, rfl, r, " ", rfl, rfl, by decide +kernel, by show r.length + 2 ≤ sizeLine; exact sz_line (by omega), fun D hD => ?_⟩
      have s5 := s4.trans (same_new (o := .lst ((Txt.split r " ").map V.str)) hD)
      have hD5 : (upd H4 D (.lst ((Txt.split r " ").map V.str))) D = some (.lst (strV (Txt.split r " "))) := upd_same
      generalize upd H4 D (.lst ((Txt.split r " ").map V.str)) = H5 at s5 hD5
      refine ⟨by show 3 ≤ sizeLine; decide, fun t1 ht1 => ?_⟩
      have s6 := s5.trans (same_new (o := .tup [V.str "levels", V.int 3, V.int 3]) ht1)
      have hD6 := same_new (o := .tup [V.str "levels", V.int 3, V.int 3]) ht1 _ _ hD5
      have e1 : (upd H5 t1 (.tup [V.str "levels", V.int 3, V.int 3])) t1 = some (.tup [V.str "levels", V.int 3, V.int 3]) := upd_same
      generalize upd H5 t1 (.tup [V.str "levels", V.int 3, V.int 3]) = H6 at s6 hD6 e1
      refine ⟨10, 5, rfl, rfl, ⟨by decide, by decide, by decide⟩, by show 3 ≤ sizeLine; decide, fun t2 ht2 => ?_⟩
      generalize hH7 : upd H6 t2 _ = H7
      have s7' : Same H6 H7 := by rw [← hH7]; exact same_new ht2
      have s7 := s6.trans s7'
      have hD7 := s7' _ _ hD6
      have e1 := s7' _ _ e1
      have e2 : H7 t2 = some (.tup [V.str "steps", V.int 1, V.int 100000]) := by rw [← hH7]; exact upd_same
      clear hH7
      refine ⟨by show 3 ≤ sizeLine; decide, fun t3 ht3 => ?_⟩
      have s8' := same_new (o := .tup [V.str "move", V.int 2, V.int 2]) ht3
      have s8 := s7.trans s8'
      have hD8 := s8' _ _ hD7
      have e1 := s8' _ _ e1
      have e2 := s8' _ _ e2
      have e3 : (upd H7 t3 (.tup [V.str "move", V.int 2, V.int 2])) t3 = some (.tup [V.str "move", V.int 2, V.int 2]) := upd_same
      generalize upd H7 t3 (.tup [V.str "move", V.int 2, V.int 2]) = H8 at s8 s8' hD8 e1 e2 e3
      refine ⟨by show 3 ≤ sizeLine; decide, fun M hM => ?_⟩
      have s9' := same_new (o := .lst [V.ref t1, V.ref t2, V.ref t3]) hM
      have s9 := s8.trans s9'
      have hD9 := s9' _ _ hD8
      have hM9 : (upd H8 M (.lst [V.ref t1, V.ref t2, V.ref t3])) M = some (.lst [V.ref t1, V.ref t2, V.ref t3]) := upd_same
      obtain ⟨tj, htj, hj⟩ : ∃ tj : Addr, (if i = 0 then V.ref t1 else if i = 1 then V.ref t2 else V.ref t3) = V.ref tj ∧ H8 tj = some (.tup [V.str (rowName i), V.int (rowLeast i : Nat), V.int (rowMost i : Nat)]) := by
        by_cases h0 : i = 0
        · subst h0
          exact ⟨t1, rfl, e1⟩
        · by_cases h1 : i = 1
          · subst h1
            exact ⟨t2, rfl, e2⟩
          · refine ⟨t3, by rw [if_neg h0, if_neg h1], ?_⟩
            unfold rowName rowLeast rowMost
            rw [if_neg h0, if_neg h1, if_neg h0, if_neg h1, if_neg h0, if_neg h1]
            exact e3
      have hj9 := s9' _ _ hj
      generalize upd H8 M (.lst [V.ref t1, V.ref t2, V.ref t3]) = H9 at s9 hD9 hM9 hj9
      obtain ⟨j, ej, hjm⟩ := menu_k (k := i) (m1 := V.ref t1) (m2 := V.ref t2) (m3 := V.ref t3)
      rw [htj] at hjm
      refine ⟨_, rfl, i, 2, rfl, M, _, (j : Int), .ref tj, rfl, congrArg V.int ej, SqL.of hM9, atI_nat hjm, ?_⟩
      refine ⟨tj, _, rfl, .inl (.inl hj9), rfl, _, _, rfl, _, _, rfl, _, _, rfl, rfl, ?_⟩
      refine ⟨_, rfl, _, rfl, _, rfl, _, rfl, D, rowName i, rowLeast i, rowMost i, _, rfl, SqL.of hD9, l3, by omega, l2, fun H10 s10 => ?_⟩
      have s110 := s9.trans s10
      refine ⟨_, rfl, rfl, _, rfl, ?_⟩
      show if (!decide (noOrI (rowFk i (Txt.split r " ")) = V.non)) = true then _ else _
      cases hf : rowFk i (Txt.split r " ") with
      | none =>
        rw [show decide (noOrI none = V.non) = true from decide_eq_true rfl]
        refine iteF ?_
        refine ⟨_, _, _, _, _, _, _, rfl, s110, fun j ws hj hw => ?_⟩
        by_cases e : j = i
        · subst e
          rw [hWi] at hw
          cases hw
          exact hf
        · exact hall j ws (by omega) hw
      | some f =>
        rw [show decide (noOrI (some f) = V.non) = false from rfl]
        refine iteT ?_
        refine ⟨_, rfl, _, _, rfl, rfl, _, rfl, by show 3 ≤ sizeLine; decide, fun p hp => q _ _ ((s1.trans s110).trans (same_new hp)) ?_⟩
        rw [oR (txtF_bad hWi hf hall)]
        refine .tup upd_tup (.cons (.str _) (.cons (.int _) (.cons ?_ .nil)))
        show Dp K _ (noOrI (rowFk i (Txt.split r " "))) _
        rw [hf]
        exact .int _
    rintro σ H2 ⟨y2, y3, y4, y5, y6, y7, y8, rfl, s2, hall⟩
    have wl : (strV ls).length = ls.length := List.length_map ..
    have hall : ∀ j ws, W[j]? = some ws → rowFk j ws = none := fun j ws hw => hall j ws (by rw [wl, ← hWl]; exact (List.getElem?_eq_some_iff.mp hw).1) hw
    have hok := txtF_ok hall
    have s12 := s1.trans s2
    have hL2 := s2 _ _ hL1
    refine ⟨_, rfl, L, _, rfl, .inl (SqL.of hL2), _, _, rfl, rfl, _, rfl, ?_⟩
    by_cases h2 : W.length < 2
    · rw [decide_eq_true (show ((strV ls).length : Int) < 2 by rw [wl]; omega)]
      refine iteT ?_
      refine ⟨by show 3 ≤ sizeLine; decide, fun p hp => q _ _ (s12.trans (same_new hp)) ?_⟩
      rw [if_pos h2] at hok
      rw [oR hok]
      exact .tup upd_tup (.cons (.str _) (.cons (.int _) (.cons (.int _) .nil)))
    rw [decide_eq_false (show ¬ ((strV ls).length : Int) < 2 by rw [wl]; omega)]
    refine iteF ?_
    rw [if_neg h2] at hok
    have oC := oC hok
    -- told
    refine ⟨_, rfl, L, rfl, ⟨_, SqL.of hL2⟩, fun D hD => ?_⟩
    refine lc_list (K := K) (a := L) (xs := strV ls) (fun i H' => ∃ ps : List Addr, H' D = some (.lst (ps.map V.ref)) ∧ TupsAt W H' ps i ∧ (∀ p ∈ ps, p ≠ D) ∧ Same H2 H')
      ⟨[], upd_same, ⟨rfl, fun i p ws a _ => by cases i <;> cases a⟩, fun p hp => (by cases hp), same_new hD⟩ ?_ ?_ ?_
    · rintro i H' _ ⟨ps, _, _, _, s3⟩
      exact (s3.seq (SqL.of hL2))
    · rintro i v H' hv ⟨ps, hps, tups, ne, s3⟩
      obtain ⟨r, hr, rfl⟩ := map_get hv
      have hWi := hWat hr
      obtain ⟨l1, l2⟩ := wlen r (get_mem hr)
      have hrl := hrow r (get_mem hr)
      obtain ⟨n1, n2, n3⟩ := row_nums (hall i _ hWi) l1
      refine ⟨rfl, yes_turn ?_⟩
      refine ⟨_, rfl, rfl, r, " ", rfl, rfl, by decide +kernel, by show r.length + 2 ≤ sizeLine; exact sz_line (by omega), fun D1 hD1 => ?_⟩
      have t1 := same_new (o := .lst ((Txt.split r " ").map V.str)) hD1
      have hD11 : (upd H' D1 (.lst ((Txt.split r " ").map V.str))) D1 = some (.lst (strV (Txt.split r " "))) := upd_same
      generalize upd H' D1 (.lst ((Txt.split r " ").map V.str)) = H3 at t1 hD11
      generalize Txt.split r " " = ws at hWi l1 l2 n1 n2 n3 hD11
      refine ⟨1, rfl, D1, _, rfl, SqL.of hD11, fun D2 hD2 => ?_⟩
      have e1 : cutV (strV ws) (some 1) none = strV (ws.drop 1) := by
        rw [show cutV (strV ws) (some 1) none = (strV ws).drop 1 from cut_drop (n := 1) (by unfold strV; rw [List.length_map]; omega)]
        exact List.map_drop.symm
      rw [e1]
      have t2 := t1.trans (same_new (o := .lst (strV (ws.drop 1))) hD2)
      have hD22 : (upd H3 D2 (.lst (strV (ws.drop 1)))) D2 = some (.lst (strV (ws.drop 1))) := upd_same
      generalize upd H3 D2 (.lst (strV (ws.drop 1))) = H4 at t2 hD22
      refine ⟨D2, rfl, ⟨_, SqL.of hD22⟩, fun D3 hD3 => ?_⟩
      refine lc_list (K := K) (a := D2) (xs := strV (ws.drop 1)) (fun i H' => H' = upd H4 D3 (.lst (((numsOf ws).take i).map V.int))) rfl ?_ ?_ ?_
      · rintro i H' _ rfl
        exact (same_new hD3).seq (SqL.of hD22)
      · rintro i v H' hv rfl
        obtain ⟨w, hz, rfl⟩ := map_get hv
        have hz' : ws[1 + i]? = some w := by rw [List.getElem?_drop] at hz; exact hz
        obtain ⟨n, hb, rfl, h3, h4⟩ := num_at (n1 _ _ (by omega) hz')
        refine ⟨rfl, yes_turn ?_⟩
        refine ⟨_, rfl, sI n, n, rfl, h4, by have := sI_len hb; omega, _, upd_same, ?_, ?_⟩
        · have hi := (List.getElem?_eq_some_iff.mp hz').1
          rw [List.length_map, List.length_take]
          exact lt_line (by omega)
        · rw [upd_upd, nums_take hz, h3, List.map_append]
          rfl
      · rintro H5 rfl
        rw [show (numsOf ws).take (strV (ws.drop 1)).length = numsOf ws from List.take_of_length_le (by unfold strV numsOf; rw [List.length_map, List.length_map]; exact Nat.le_refl _)]
        have t3 := t2.trans (same_new (o := .lst ((numsOf ws).map V.int)) hD3)
        refine ⟨D3, _, rfl, .inl ⟨SqL.of upd_same, fun tp htp => ?_⟩⟩
        have t4 := t3.trans (same_new (o := .tup ((numsOf ws).map V.int)) htp)
        have htp4 : (upd (upd H4 D3 (.lst ((numsOf ws).map V.int))) tp (.tup ((numsOf ws).map V.int))) tp = some (.tup ((numsOf ws).map V.int)) := upd_same
        generalize upd (upd H4 D3 (.lst ((numsOf ws).map V.int))) tp (.tup ((numsOf ws).map V.int)) = H6 at t4 htp4
        have npD : tp ≠ D := ne_of htp4 (t4 _ _ hps) nofun
        have hi : i < ls.length := (List.getElem?_eq_some_iff.mp hr).1
        refine ⟨ps.map V.ref, t4 _ _ hps, ?_, ps ++ [tp], ?_, ⟨?_, ?_⟩, ?_, ?_⟩
        · rw [List.length_map, tups.len]
          exact lt_line (by omega)
        · rw [upd_same, List.map_append]
          rfl
        · rw [List.length_append, tups.len]
          rfl
        · intro j p' ws' hp' hws'
          by_cases hj : j < i
          · rw [List.getElem?_append_left (by rw [tups.len]; exact hj)] at hp'
            rw [upd_ne (ne p' (get_mem hp'))]
            exact t4 _ _ (tups.st j p' ws' hp' hws')
          · have hj2 : j < (ps ++ [tp]).length := (List.getElem?_eq_some_iff.mp hp').1
            rw [List.length_append, tups.len] at hj2
            have e : j = i := by
              have : j < i + 1 := hj2
              omega
            subst e
            rw [List.getElem?_append_right (by rw [tups.len]; exact Nat.le_refl _), tups.len, Nat.sub_self] at hp'
            cases hp'
            rw [hWi] at hws'
            cases hws'
            rw [upd_ne npD]
            exact htp4
        · intro p' hp'
          rcases List.mem_append.mp hp' with e | e
          · exact ne p' e
          · rw [List.mem_singleton.mp e]; exact npD
        · intro b x e
          rw [upd_ne (ne_of_none e hD)]
          exact (s3.trans t4) b x e
    rintro H3 ⟨ps, hps, tups, _, s3⟩
    rw [wl, ← hWl] at tups
    have s13 := s12.trans s3
    have pl : (ps.map V.ref).length = W.length := by rw [List.length_map, tups.len]
    have tupAt : ∀ {i : Nat}, i < W.length → ∃ p, (ps.map V.ref)[i]? = some (V.ref p) ∧ H3 p = some (.tup ((numsOf (W.getD i [])).map V.int)) ∧ rowFk i (W.getD i []) = none := by
      intro i hiw
      have hWi : W[i]? = some (W[i]'hiw) := List.getElem?_eq_getElem hiw
      have hip : i < ps.length := by rw [tups.len]; exact hiw
      rw [getR_of hWi]
      exact ⟨ps[i], get_map (List.getElem?_eq_getElem hip), tups.st i ps[i] _ (List.getElem?_eq_getElem hip) hWi, hall i _ hWi⟩
    obtain ⟨p0, g0, w0, f0⟩ := tupAt (i := 0) (by omega)
    obtain ⟨p1, g1, w1, f1⟩ := tupAt (i := 1) (by omega)
    obtain ⟨c1, c2, c3, e0⟩ := len3 ((row_good f0).2.2.2.1 rfl)
    rw [e0] at w0
    have elow : (codOf W).low = c1 := by show (numsOf (W.getD 0 [])).getD 0 0 = c1; rw [e0]; rfl
    have ehigh : (codOf W).high = c2 := by show (numsOf (W.getD 0 [])).getD 1 0 = c2; rw [e0]; rfl
    have efade : (codOf W).fade = c3 := by show (numsOf (W.getD 0 [])).getD 2 0 = c3; rw [e0]; rfl
    have esteps : (codOf W).steps = numsOf (W.getD 1 []) := rfl
    have hm : (codOf W).moves = (W.drop 2).map fun ws => ((numsOf ws).getD 0 0, (numsOf ws).getD 1 0) := rfl
    have ml : (codOf W).moves.length = W.length - 2 := by rw [hm, List.length_map, List.length_drop]
    have sl1 := (row_good f1).2.2.2.2.1 rfl
    have sl2 : (numsOf (W.getD 1 [])).length ≤ 100000 := by
      have hW1 : W[1]? = some (W[1]'(by omega)) := List.getElem?_eq_getElem (by omega)
      rw [getR_of hW1]
      obtain ⟨r, hr, e⟩ : ∃ r, ls[1]? = some r ∧ W[1]'(by omega) = Txt.split r " " := by
        have : ls[1]? = some (ls[1]'(by omega)) := List.getElem?_eq_getElem (by omega)
        refine ⟨_, this, ?_⟩
        have h3 := hWat this
        rw [hW1] at h3
        exact Option.some.inj h3
      rw [e]
      unfold numsOf
      rw [List.length_map, List.length_drop]
      have := (wlen r (get_mem hr)).1
      omega
    have moveAt : ∀ {H' : Hp}, Same H3 H' → DpAll K H' ((ps.map V.ref).drop 2) ((codOf W).moves.map pairI) := fun {H'} s => by
      refine dpAll_of (by rw [List.length_drop, pl, List.length_map, ml]) fun i x d hx hd => ?_
      rw [List.getElem?_drop] at hx
      have hi2 : 2 + i < W.length := by
        have := (List.getElem?_eq_some_iff.mp hx).1
        rw [pl] at this
        exact this
      obtain ⟨p2, g2, w2, f2⟩ := tupAt hi2
      rw [g2] at hx
      cases hx
      obtain ⟨m1, m2, em⟩ := len2 ((row_good f2).2.2.2.2.2 (by omega))
      have hp : (codOf W).moves[i]? = some (m1, m2) := by
        rw [hm]
        have e2 : (W.drop 2)[i]? = some (W.getD (2 + i) []) := by
          rw [List.getElem?_drop, List.getD_eq_getElem?_getD, List.getElem?_eq_getElem hi2]
          rfl
        rw [get_map e2, em]
        rfl
      rw [get_map hp] at hd
      cases hd
      rw [em] at w2
      exact dp_mkpair (s := (m1, m2)) (.inl (.inl (s _ _ w2)))
    have e2 : cutV (ps.map V.ref) (some 2) none = (ps.map V.ref).drop 2 := cut_drop (n := 2) (by rw [pl]; omega)
    refine ⟨_, rfl, D, _, 0, _, rfl, rfl, SqL.of hps, atI_nat (j := 0) g0, p0, _, 0, .int c1, rfl, rfl, .inl (.inl w0), atI_nat (j := 0) rfl,
      _, rfl, D, _, 0, _, rfl, rfl, SqL.of hps, atI_nat (j := 0) g0, p0, _, 1, .int c2, rfl, rfl, .inl (.inl w0), atI_nat (j := 1) rfl,
      _, rfl, D, _, 1, _, rfl, rfl, SqL.of hps, atI_nat (j := 1) g1, _, rfl, 2, rfl, D, _, rfl, SqL.of hps, fun L2 hL2 => ?_⟩
    rw [e2]
    have s4 := same_new (o := .lst ((ps.map V.ref).drop 2)) hL2
    have hL24 : (upd H3 L2 (.lst ((ps.map V.ref).drop 2))) L2 = some (.lst ((ps.map V.ref).drop 2)) := upd_same
    generalize upd H3 L2 (.lst ((ps.map V.ref).drop 2)) = H4 at s4 hL24
    refine ⟨L2, _, rfl, .inl ⟨SqL.of hL24, fun tm htm => ?_⟩⟩
    have s5' := same_new (o := .tup ((ps.map V.ref).drop 2)) htm
    have s5 := s4.trans s5'
    have htm5 : (upd H4 tm (.tup ((ps.map V.ref).drop 2))) tm = some (.tup ((ps.map V.ref).drop 2)) := upd_same
    generalize upd H4 tm (.tup ((ps.map V.ref).drop 2)) = H5 at s5 s5' htm5
    refine ⟨_, rfl, D, _, 0, _, rfl, rfl, SqL.of (s5 _ _ hps), atI_nat (j := 0) g0, p0, _, 2, .int c3, rfl, rfl, .inl (.inl (s5 _ _ w0)), atI_nat (j := 2) rfl,
      p1, tm, _, codOf W, by rw [elow, ehigh, efade]; rfl, .inl (.inl (s5 _ _ w1)), sl1, by show (numsOf (W.getD 1 [])).length ≤ 900000; omega, .inl (.inl htm5), moveAt s5, by omega, fun z H6 s6 hz => ?_⟩
    have s36 := s5.trans s6
    refine ⟨_, rfl, rfl, _, rfl, ?_⟩
    show if (!decide (z = V.non)) = true then _ else _
    rw [dp_isN hz]
    have fault : ∀ (s : Str) (e : PyData), firstF (codOf W).dat = .tuple [.str s, e] → ∃ (a : Addr) (v : V), z = .ref a ∧ SqT K H6 a [.str s, v] ∧ Dp K H6 v e := fun s e he => by
      rw [he] at hz
      obtain ⟨a, xs, rfl, ha, hds⟩ := dp_tup hz
      obtain ⟨x1, x2, rfl, h1, h2⟩ := dpAll2 hds
      cases h1
      exact ⟨a, x2, rfl, ha, h2⟩
    have told : ∀ (s : Str) (e : PyData), firstF (codOf W).dat = .tuple [.str s, e] → outC (some t) = .tuple [.str "coder", .str s, e] := fun s e he => by
      rw [oC, he]
      rfl
    have s16 := s13.trans s36
    have doFault : ∀ (s : Str) (e : PyData), firstF (codOf W).dat = .tuple [.str s, e] → ∃ (a : Addr) (v : V), z = .ref a ∧ SqT K H6 a [.str s, v] ∧ ∀ p, H6 p = none → Q (.ref p) (upd H6 p (.tup [V.str "coder", V.str s, v])) := fun s e he => by
      obtain ⟨a, v, rfl, ha, hv⟩ := fault s e he
      refine ⟨a, v, rfl, ha, fun p hp => q _ _ (s16.trans (same_new hp)) ?_⟩
      rw [told s e he]
      exact .tup upd_tup (.cons (.str _) (.cons (.str _) (.cons (dp_same (same_new hp) _ _ hv) .nil)))
    rcases firstF_flt (codOf W).dat with e | ⟨x, _, e⟩
    · rw [e]
      refine iteF ?_
      have hp6 := s36 _ _ hps
      refine ⟨_, rfl, D, _, 0, _, rfl, rfl, SqL.of hp6, atI_nat (j := 0) g0, p0, _, 0, .int c1, rfl, rfl, .inl (.inl (s36 _ _ w0)), atI_nat (j := 0) rfl,
        _, rfl, D, _, 0, _, rfl, rfl, SqL.of hp6, atI_nat (j := 0) g0, p0, _, 1, .int c2, rfl, rfl, .inl (.inl (s36 _ _ w0)), atI_nat (j := 1) rfl,
        _, rfl, D, _, 1, _, rfl, rfl, SqL.of hp6, atI_nat (j := 1) g1, _, rfl, 2, rfl, D, _, rfl, SqL.of hp6, fun L7 hL7 => ?_⟩
      rw [e2]
      have s7' := same_new (o := .lst ((ps.map V.ref).drop 2)) hL7
      have s7 := s36.trans s7'
      have hL77 : (upd H6 L7 (.lst ((ps.map V.ref).drop 2))) L7 = some (.lst ((ps.map V.ref).drop 2)) := upd_same
      generalize upd H6 L7 (.lst ((ps.map V.ref).drop 2)) = H7 at s7 s7' hL77
      refine ⟨L7, _, rfl, .inl ⟨SqL.of hL77, fun tm2 htm2 => ?_⟩⟩
      have s8' := same_new (o := .tup ((ps.map V.ref).drop 2)) htm2
      have s8 := s7.trans s8'
      have htm8 : (upd H7 tm2 (.tup ((ps.map V.ref).drop 2))) tm2 = some (.tup ((ps.map V.ref).drop 2)) := upd_same
      generalize upd H7 tm2 (.tup ((ps.map V.ref).drop 2)) = H8 at s8 s8' htm8
      refine ⟨_, rfl, D, _, 0, _, rfl, rfl, SqL.of (s8 _ _ hps), atI_nat (j := 0) g0, p0, _, 2, .int c3, rfl, rfl, .inl (.inl (s8 _ _ w0)), atI_nat (j := 2) rfl,
        by show 5 ≤ sizeLine; decide, fun tc htc => ⟨by show 1 ≤ sizeLine; decide, fun Lz hLz => ?_⟩⟩
      have s9 := same_new (o := .tup [V.int c1, V.int c2, V.ref p1, V.ref tm2, V.int c3]) htc
      have s10 := same_new (o := .lst [V.ref tc]) hLz
      refine q _ _ (((s13.trans s8).trans s9).trans s10) ?_
      rw [oC, e]
      have hc : Dp K (upd H8 tc (.tup [V.int c1, V.int c2, V.ref p1, V.ref tm2, V.int c3])) (.ref tc) (codOf W).dat := by
        unfold Cod.dat
        rw [elow, ehigh, efade]
        exact .tup upd_tup (.cons (.int _) (.cons (.int _) (.cons (dp_tints (.inl (.inl ((s8.trans s9) _ _ w1)))) (.cons (.tup (.inl (.inl (s9 _ _ htm8))) (moveAt (s8.trans s9))) (.cons (.int _) .nil)))))
      exact .lst (SqL.of upd_same) (.cons (dp_same s10 _ _ hc) .nil)
    · have : ∃ e', firstF (codOf W).dat = .tuple [.str x, e'] := by
        rcases e with e | ⟨k, _, e⟩
        · exact ⟨_, e⟩
        · exact ⟨_, e⟩
      obtain ⟨e', he⟩ := this
      obtain ⟨fa, v, rfl, ha, done⟩ := doFault x e' he
      rw [he]
      refine iteT ?_
      exact ⟨_, rfl, fa, _, 0, _, rfl, rfl, ha, atI_nat (j := 0) rfl, _, rfl, fa, _, 1, _, rfl, rfl, ha, atI_nat (j := 1) rfl, by show 3 ≤ sizeLine; decide, fun p hp => done p hp⟩
end
end My

set_option pp.maxSteps 400
namespace My
open PySem PySem.Spec PyProof.Rows L2
theorem atI_lt {α : Type} {xs : List α} {g : Int} (h0 : 0 ≤ g) (h1 : g < xs.length) : ∃ v, atI xs g = some v ∧ v ∈ xs := by
  have hg : g.toNat < xs.length := by omega
  have h := atI_nat (j := g.toNat) (List.getElem?_eq_getElem hg)
  rw [show ((g.toNat : Nat) : Int) = g by omega] at h
  exact ⟨_, h, List.getElem_mem hg⟩
theorem len_lf : ("\n" : Str).length ≤ 1 := by decide +kernel
theorem sI_6 {n : Int} (h : n.natAbs < 100000) : (sI n).length ≤ 6 := sI_len h
section
variable {P : Program} {w : World} {K : PySem.W.Frag} {mg : Str → Option Value} {base : Heap}
def sp_text : Sp := fun vs H Q _ => ∃ (m c l : Addr) (k : Nat), vs = [.ref m] ∧ Dr H m c l (k + 30) ∧ ∀ (u : Str) (l' : Addr) (H' : Hp), u.length ≤ 1000 → Kp m l H l' H' → Dr H' m c l' k → Q (.str u) H'
set_option maxHeartbeats 4000000 in
theorem ok_law_text (T : Txt K mg) : FnOk P w K mg base CX0 3 T.f__law_text T.d__law_text ["m"] sp_text := by
  refine T.F__law_text.ok sc_law_text (fun vs H Q E h => ?_) (fun cdv A outer s H vs Q E hr h => ?_)
  · obtain ⟨m, c, l, k, rfl, _⟩ := h
    rfl
  · obtain ⟨m, c, l, k, rfl, D0, q⟩ := h
    refine ⟨_,
(pss_cons (ps_par (i := 1) (j := 2) (by rfl) sc_law_text.nd rfl rfl (by decide) rfl rfl (pa_cons (pe_op op_sub pe_int (pe_call (ok_law_next T) (hr.mono (by decide)) (by rfl) T.g__law_next T.F__law_next.kp T.b__law_next .nil pass0 (pa_cons (pv 0) (pa_cons pe_int pa_nil)))) (pa_cons (pe_call (ok_law_next T) (hr.mono (by decide)) (by rfl) T.g__law_next T.F__law_next.kp T.b__law_next .nil pass0 (pa_cons (pv 0) (pa_cons pe_int pa_nil))) pa_nil)) (by rfl))
      (pss_cons (ps_set (i := 3) sc_law_text.nd rfl (Or.inl rfl) (pe_lst (pa_cons (pe_op op_add_str (pe_op op_add_str (pe_op op_add_str (pe_op op_add_str (pe_op op_add_str pe_str (pe_callTy call_str_int (by rfl) T.z_str (by decide +kernel) (pa_cons (pv 1) pa_nil))) pe_str) (pe_callTy call_str_int (by rfl) T.z_str (by decide +kernel) (pa_cons (pv 2) pa_nil))) pe_str) (pe_callTy call_str_int (by rfl) T.z_str (by decide +kernel) (pa_cons (pe_ix ix_list (pe_lst (pa_cons pe_int (pa_cons pe_int (pa_cons pe_int pa_nil)))) (pe_call (ok_law_next T) (hr.mono (by decide)) (by rfl) T.g__law_next T.F__law_next.kp T.b__law_next .nil pass0 (pa_cons (pv 0) (pa_cons pe_int pa_nil))) (fun _ _ => rfl)) pa_nil))) pa_nil)))
      (pss_cons (ps_expr (pe_bm PySem.F.plainAttrs_list PySem.F.slot_list_append PySem.F.type_list_append mt_append (pv 3) (pa_cons (pe_op op_add_str pe_str (pe_bm PySem.F.plainAttrs_str PySem.F.slot_str_join PySem.F.type_str_join mt_join pe_str (pa_cons (pe_lc (own := [("k", 4)]) rfl sc_law_text.nd (pi_range1 (by rfl) T.z_range (pa_cons (pe_op op_add pe_int (pe_call (ok_law_next T) (hr.mono (by decide)) (by rfl) T.g__law_next T.F__law_next.kp T.b__law_next .nil pass0 (pa_cons (pv 0) (pa_cons pe_int pa_nil)))) pa_nil)) (blkOk_by (own := [("k", 4)]) (N := ["m", "low", "high", "rows", "k"]) (sc := defScope s_law_text) (by decide +kernel)) (fun _ _ _ _ _ => (pg_name (i := 4) sc_law_text.nd rfl (Or.inl rfl))) (fun _ _ _ _ _ => pts_nil) (fun _ _ _ _ _ => (pe_op op_add_str pe_str (pe_callTy call_str_int (by rfl) T.z_str (by decide +kernel) (pa_cons (pe_op op_add pe_int (pe_call (ok_law_next T) (hr.mono (by decide)) (by rfl) T.g__law_next T.F__law_next.kp T.b__law_next .nil pass0 (pa_cons (pv 0) (pa_cons pe_int pa_nil)))) pa_nil))))) pa_nil))) pa_nil)))
      (pss_cons (ps_for PassesOwn.never rfl (pi_range1 (by rfl) T.z_range (pa_cons (pe_op op_add pe_int (pe_call (ok_law_next T) (hr.mono (by decide)) (by rfl) T.g__law_next T.F__law_next.kp T.b__law_next .nil pass0 (pa_cons (pv 0) (pa_cons pe_int pa_nil)))) pa_nil)) (pg_name (i := 4) sc_law_text.nd rfl (Or.inl rfl)) (pss_one (ps_expr (pe_bm PySem.F.plainAttrs_list PySem.F.slot_list_append PySem.F.type_list_append mt_append (pv 3) (pa_cons (pe_op op_add_str (pe_op op_add_str (pe_op op_add_str pe_str (pe_callTy call_str_int (by rfl) T.z_str (by decide +kernel) (pa_cons (pe_op op_sub (pe_call (ok_law_next T) (hr.mono (by decide)) (by rfl) T.g__law_next T.F__law_next.kp T.b__law_next .nil pass0 (pa_cons (pv 0) (pa_cons pe_int pa_nil))) pe_int) pa_nil))) pe_str) (pe_callTy call_str_int (by rfl) T.z_str (by decide +kernel) (pa_cons (pe_op op_sub (pe_call (ok_law_next T) (hr.mono (by decide)) (by rfl) T.g__law_next T.F__law_next.kp T.b__law_next .nil pass0 (pa_cons (pv 0) (pa_cons pe_int pa_nil))) pe_int) pa_nil))) pa_nil)))))
      (pss_one (ps_ret (pe_bm PySem.F.plainAttrs_str PySem.F.slot_str_join PySem.F.type_str_join mt_join pe_str (pa_cons (pv 3) pa_nil))))))))
, ?_⟩
    refine ⟨_, rfl, m, c, l, k + 29, 40, rfl, by decide, by decide, D0, fun a l1 H1 a0 a1 kp1 D1 => ⟨0, a, rfl, rfl, ?_⟩⟩
    refine ⟨_, rfl, m, c, l1, k + 28, 40, rfl, by decide, by decide, D1, fun b l2 H2 b0 b1 kp2 D2 => ⟨_, _, rfl, ?_⟩⟩
    have kp2 := kp1.trans kp2
    have h0 : ∀ (x y : Str) {i j : Nat}, x.length ≤ i → y.length ≤ j → i + j ≤ 100000 → x.length + y.length ≤ sizeLine := fun x y {i j} h1 h2 h3 => sz_line (by omega)
    have hlow : (0 - a).natAbs < 100000 := by omega
    have hhigh : b.natAbs < 100000 := by omega
    have g1 := app_len len_levels (sI_6 hlow)
    have g2 := app_len g1 len_b
    have g3 := app_len g2 (sI_6 hhigh)
    have g4 := app_len g3 len_b
    refine ⟨_, rfl, _, rfl, log_ok hlow, _, _, rfl, rfl, h0 _ _ len_levels (sI_6 hlow) (by decide), _, _, rfl, rfl, h0 _ _ g1 len_b (by decide), _, rfl, _, rfl, log_ok hhigh, _, _, rfl, rfl, h0 _ _ g2 (sI_6 hhigh) (by decide), _, _, rfl, rfl, h0 _ _ g3 len_b (by decide),
      by show 3 ≤ sizeLine; decide, fun F hF => ?_⟩
    have oF := own_mk (xs := [V.int 0, V.int 2, V.int 99]) D2 hF
    have D3 := D2.new (o := .lst [V.int 0, V.int 2, V.int 99]) hF
    have kp3 := kp2.trans (Kp.new (o := .lst [V.int 0, V.int 2, V.int 99]) hF)
    generalize upd H2 F (.lst [V.int 0, V.int 2, V.int 99]) = H3 at oF D3 kp3
    refine ⟨_, rfl, m, c, l2, k + 27, 3, rfl, by decide, by decide, D3, fun g l4 H4 gg0 gg1 kp4 D4 => ?_⟩
    have oF := oF.kp kp4
    have kp4 := kp3.trans kp4
    obtain ⟨v, hat, hv⟩ := at3 (a := V.int 0) (b := V.int 2) (c := V.int 99) gg0 gg1
    obtain ⟨f, rfl, hf⟩ : ∃ f, v = V.int f ∧ f.natAbs < 100000 := by
      rcases hv with e | e | e
      · exact ⟨0, e, by decide⟩
      · exact ⟨2, e, by decide⟩
      · exact ⟨99, e, by decide⟩
    have g5 := app_len g4 (sI_6 hf)
    refine ⟨F, _, g, .int f, rfl, rfl, SqL.of oF.st, hat, f, rfl, log_ok hf, _, _, rfl, rfl, h0 _ _ g4 (sI_6 hf) (by decide), by show 1 ≤ sizeLine; decide, fun L hL => ?_⟩
    have first : (((((("levels " : Str) ++ Str.ofString (toString (0 - a))) ++ " ") ++ Str.ofString (toString b)) ++ " ") ++ Str.ofString (toString f)).length ≤ 40 := Nat.le_trans g5 (by decide)
    generalize (((((("levels " : Str) ++ Str.ofString (toString (0 - a))) ++ " ") ++ Str.ofString (toString b)) ++ " ") ++ Str.ofString (toString f)) = x0 at first
    have oL := own_mk (xs := strV [x0]) D4 hL
    have D5 := D4.new (o := .lst (strV [x0])) hL
    have kp5 := kp4.trans (Kp.new (o := .lst (strV [x0])) hL)
    have eL : upd H4 L (.lst [V.str x0]) = upd H4 L (.lst (strV [x0])) := rfl
    rw [eL]
    generalize upd H4 L (.lst (strV [x0])) = H5 at oL D5 kp5
    refine ⟨_, rfl, .inl ⟨rfl, _, SqL.of oL.st⟩, ?_⟩
    refine ⟨rfl, _, rfl, m, c, l4, k + 26, 4, rfl, by decide, by decide, D5, fun np l6 H6 n0 n1 kp6 D6 => ⟨1, np, rfl, rfl, _, rfl, by omega, by omega, fun S hS => ?_⟩⟩
    have oL := oL.kp kp6
    have kp6 := kp5.trans kp6
    have nLS := oL.ne hS
    have hS0 : H S = none := kp6.dm S hS
    refine lc_range (lo := 0) (n := (1 + np).toNat) (fun i H' => ∃ (l' : Addr) (ws : List Str), Own H' m c l' S (strV ws) ∧ ws.length = i ∧ (∀ w ∈ ws, w.length ≤ 7) ∧ Kp m l H l' H' ∧ Dr H' m c l' (k + 26 - i) ∧ Own H' m c l' L (strV [x0]))
      ⟨l6, [], own_mk D6 hS, rfl, by simp, kp6.trans (Kp.new hS), D6.new hS, oL.same (same_new hS)⟩ ?_ ?_
    · rintro i H' hi ⟨l', ws, oS, hlen, hws, kp, D, oL⟩
      have hi' : i < 4 := by omega
      refine ⟨rfl, yes_turn ?_⟩
      have e1 : k + 26 - i = k + 26 - (i + 1) + 1 := by omega
      rw [e1] at D
      refine ⟨_, rfl, m, c, l', k + 26 - (i + 1), 99, rfl, by decide, by decide, D, fun r l7 H7 r0 r1 kp7 D7 => ⟨1, r, rfl, rfl, ?_⟩⟩
      have hr : (1 + r).natAbs < 100000 := by omega
      have oS := oS.kp kp7
      have oL := oL.kp kp7
      refine ⟨_, rfl, log_ok hr, _, _, rfl, rfl, h0 _ _ len_b (sI_6 hr) (by decide), _, oS.st, ?_, l7, ws ++ [(" " : Str) ++ sI (1 + r)], ?_, by simp [hlen], ?_, (kp.trans kp7).set hS0, D7.put oS, oL.set nLS⟩
      · unfold strV
        rw [List.length_map]
        exact lt_line (by omega)
      · unfold strV
        rw [List.map_append]
        exact oS.put
      · intro w hw
        rcases List.mem_append.mp hw with h | h
        · exact hws w h
        · rw [List.mem_singleton.mp h]
          exact app_len len_b (sI_6 hr)
    rintro H7 ⟨l7, ws, oS, hlen, hws, kp7, D7, oL⟩
    have D7 : Dr H7 m c l7 (k + 22) := D7.less (by omega)
    have hn4 : ws.length ≤ 4 := by omega
    have e0 : ("" : Str).length = 0 := rfl
    have hj : (Txt.join "" ws).length ≤ 28 := by
      rw [TL.join_eq, TL.len_tl, TL.tl_join, show TL.tl ("" : Str) = [] from rfl]
      have := joinL_len (y := []) (k := 7) (ps := ws.map TL.tl) fun p hp => by
        obtain ⟨w, hw, rfl⟩ := List.mem_map.mp hp
        rw [← TL.len_tl]
        exact hws w hw
      rw [List.length_map, List.length_nil] at this
      omega
    have len_st : ("steps" : Str).length ≤ 5 := by decide +kernel
    have hsm := sum_len hws
    refine ⟨"", S, ws, rfl, rfl, .inl (SqL.of oS.st), by rw [e0]; omega, _, _, rfl, rfl, h0 _ _ len_st hj (by decide), ?_⟩
    have second : (("steps" : Str) ++ Txt.join "" ws).length ≤ 40 := Nat.le_trans (app_len len_st hj) (by decide)
    generalize ("steps" : Str) ++ Txt.join "" ws = x1 at second
    have hL0 : H L = none := kp4.dm L hL
    refine ⟨L, _, _, rfl, rfl, oL.st, by show 1 < sizeLine; decide, ?_⟩
    have oL : Own (upd H7 L (.lst (strV [x0] ++ [V.str x1]))) m c l7 L (strV ([x0] ++ [x1])) := by
      unfold strV
      rw [List.map_append]
      exact oL.put
    have D8 : Dr (upd H7 L (.lst (strV [x0] ++ [V.str x1]))) m c l7 (k + 22) := D7.set oL.nm oL.nc oL.nl
    have kp8 : Kp m l H l7 (upd H7 L (.lst (strV [x0] ++ [V.str x1]))) := kp7.set hL0
    generalize upd H7 L (.lst (strV [x0] ++ [V.str x1])) = H8 at oL D8 kp8
    -- the moves
    refine ⟨_, rfl, m, c, l7, k + 21, 3, rfl, by decide, by decide, D8, fun nm l9 H9 nm0 nm1 kp9 D9 => ⟨2, nm, rfl, rfl, _, rfl, by omega, by omega, ?_⟩⟩
    have oL := oL.kp kp9
    have kp9 := kp8.trans kp9
    refine for_range (lo := 0) (n := (2 + nm).toNat) (fun i σ H' => ∃ (y : Option V) (l' : Addr) (ws : List Str), σ = [some (.ref m), some (.int (0 - a)), some (.int b), some (.ref L), y] ∧ Own H' m c l' L (strV ws) ∧ ws.length = i + 2 ∧ (∀ w ∈ ws, w.length ≤ 40) ∧ Kp m l H l' H' ∧ Dr H' m c l' (k + 21 - 2 * i))
      ⟨none, l9, [x0] ++ [x1], rfl, oL, rfl, fun w hw => ?_, kp9, D9⟩ ?_ ?_
    · rcases List.mem_cons.mp hw with e | e
      · rw [e]; exact first
      · rw [List.mem_singleton.mp e]; exact second
    · rintro i σ H10 hi ⟨y, l10, ws2, rfl, oL, hlen2, hws2, kp10, D10⟩
      have hi' : i < 4 := by omega
      have D10 : Dr H10 m c l10 (k + 21 - 2 * (i + 1) + 1 + 1) := D10.less (by omega)
      refine ⟨_, rfl, .inl ⟨rfl, _, SqL.of oL.st⟩, ?_⟩
      refine ⟨_, rfl, m, c, l10, k + 21 - 2 * (i + 1) + 1, 65, rfl, by decide, by decide, D10, fun r1 l11 H11 r10 r11 kp11 D11 => ⟨r1, 32, rfl, rfl, ?_⟩⟩
      have hr1 : (r1 - 32).natAbs < 100000 := by omega
      have len_mv : ("move " : Str).length ≤ 5 := len_move
      have q1 := app_len len_mv (sI_6 hr1)
      refine ⟨_, rfl, log_ok hr1, _, _, rfl, rfl, h0 _ _ len_mv (sI_6 hr1) (by decide), _, _, rfl, rfl, h0 _ _ q1 len_b (by decide), ?_⟩
      have q2 := app_len q1 len_b
      refine ⟨_, rfl, m, c, l11, k + 21 - 2 * (i + 1), 31, rfl, by decide, by decide, D11, fun r2 l12 H12 r20 r21 kp12 D12 => ⟨r2, 15, rfl, rfl, ?_⟩⟩
      have hr2 : (r2 - 15).natAbs < 100000 := by omega
      have q3 := app_len q2 (sI_6 hr2)
      refine ⟨_, rfl, log_ok hr2, _, _, rfl, rfl, h0 _ _ q2 (sI_6 hr2) (by decide), ?_⟩
      have oL := (oL.kp kp11).kp kp12
      refine ⟨L, _, _, rfl, rfl, oL.st, ?_, ?_⟩
      · unfold strV
        rw [List.length_map]
        exact lt_line (by omega)
      · refine ⟨_, l12, ws2 ++ [((("move " : Str) ++ sI (r1 - 32)) ++ " ") ++ sI (r2 - 15)], rfl, ?_, by simp [hlen2], ?_, ((kp10.trans kp11).trans kp12).set hL0, D12.put oL⟩
        · unfold strV
          rw [List.map_append]
          exact oL.put
        · intro w hw
          rcases List.mem_append.mp hw with h | h
          · exact hws2 w h
          · rw [List.mem_singleton.mp h]
            exact Nat.le_trans q3 (by decide)
    · rintro σ H10 ⟨y, l10, ws2, rfl, oL, hlen2, hws2, kp10, D10⟩
      have hn6 : ws2.length ≤ 6 := by omega
      have hsm := sum_len hws2
      have hm1 : ws2.length * ("\n" : Str).length ≤ ws2.length * 1 := Nat.mul_le_mul (Nat.le_refl _) len_lf
      have hl := text_len hws2
      refine ⟨rfl, _, rfl, "\n", L, ws2, rfl, rfl, .inl (SqL.of oL.st), by omega, ?_⟩
      exact q _ l10 _ (by show (textT ws2).length ≤ 1000; omega) kp10 (D10.less (by omega))
end
end My

set_option pp.maxSteps 400
namespace My
open PySem PySem.Spec PyProof.Rows L2
section
variable {P : Program} {w : World} {K : PySem.W.Frag} {mg : Str → Option Value} {base : Heap}
def sp_bent_row : Sp := fun vs H Q _ => ∃ (m c l : Addr) (k : Nat) (t : Str), vs = [.ref m, .str t] ∧ t.length ≤ 100000 ∧ Dr H m c l (k + 4) ∧
  ∀ (u : Str) (l' : Addr) (H' : Hp), u.length ≤ 2 * t.length + 3100 → Kp m l H l' H' → Dr H' m c l' k → Q (.str u) H'
set_option maxHeartbeats 4000000 in
theorem ok_law_bent_row (T : Txt K mg) : FnOk P w K mg base CX0 3 T.f__law_bent_row T.d__law_bent_row ["m", "row"] sp_bent_row := by
  refine T.F__law_bent_row.ok sc_law_bent_row (fun vs H Q E h => ?_) (fun cdv A outer s H vs Q E hr h => ?_)
  · obtain ⟨m, c, l, k, t, rfl, _⟩ := h
    rfl
  · obtain ⟨m, c, l, k, t, rfl, hlen, D3, q⟩ := h
    have q : ∀ (u : Str) (n : Nat) l' H', u.length ≤ 2 * t.length + 3100 → Kp m l H l' H' → Dr H' m c l' (k + n) → Q (.str u) H' := fun u n l' H' h kp D => q u l' H' h kp (D.less (by omega))
    refine ⟨_,
(pss_cons (ps_set (i := 2) sc_law_bent_row.nd rfl (Or.inl rfl) (pe_bm PySem.F.plainAttrs_str PySem.F.slot_str_split PySem.F.type_str_split mt_split (pv 1) (pa_cons pe_str pa_nil)))
      (pss_cons (ps_set (i := 3) sc_law_bent_row.nd rfl (Or.inl rfl) (pe_call (ok_law_next T) (hr.mono (by decide)) (by rfl) T.g__law_next T.F__law_next.kp T.b__law_next .nil pass0 (pa_cons (pv 0) (pa_cons (pe_callB (call_len_seq) (by rfl) T.z_len (by decide +kernel) (pa_cons (pv 2) pa_nil)) pa_nil))))
      (pss_cons (ps_set (i := 4) sc_law_bent_row.nd rfl (Or.inl rfl) (pe_lst (pa_cons pe_str (pa_cons pe_str (pa_cons pe_str (pa_cons pe_str (pa_cons pe_str (pa_cons pe_str (pa_cons pe_str (pa_cons pe_str (pa_cons pe_str (pa_cons pe_str (pa_cons pe_str (pa_cons pe_str (pa_cons pe_str (pa_cons pe_str (pa_cons pe_str pa_nil)))))))))))))))))
      (pss_cons (ps_set (i := 4) sc_law_bent_row.nd rfl (Or.inl rfl) (pe_op op_cat (pv 4) (pe_lst (pa_cons pe_str (pa_cons pe_str (pa_cons pe_str (pa_cons (pe_op My.op_repS pe_str pe_int) pa_nil)))))))
      (pss_cons (ps_par (i := 5) (j := 6) (by rfl) sc_law_bent_row.nd rfl rfl (by decide) rfl rfl (pa_cons (pe_ix ix_list (pv 4) (pe_call (ok_law_next T) (hr.mono (by decide)) (by rfl) T.g__law_next T.F__law_next.kp T.b__law_next .nil pass0 (pa_cons (pv 0) (pa_cons pe_int pa_nil))) (fun _ _ => rfl)) (pa_cons (pe_call (ok_law_next T) (hr.mono (by decide)) (by rfl) T.g__law_next T.F__law_next.kp T.b__law_next .nil pass0 (pa_cons (pv 0) (pa_cons pe_int pa_nil))) pa_nil)) (by rfl))
      (pss_cons (ps_if (pt_cmpR op_eq (pv 6) pe_int (nomark _)) (pss_one (ps_ret (pe_bm PySem.F.plainAttrs_str PySem.F.slot_str_join PySem.F.type_str_join mt_join pe_str (pa_cons (pe_op op_cat (pe_slice sl_list (pv 2) po_none (po_some (pv 3))) (pe_slice sl_list (pv 2) (po_some (pe_op op_add (pv 3) pe_int)) po_none)) pa_nil)))) pss_nil)
      (pss_one (ps_ret (pe_bm PySem.F.plainAttrs_str PySem.F.slot_str_join PySem.F.type_str_join mt_join pe_str (pa_cons (pe_op op_cat (pe_op op_cat (pe_slice sl_list (pv 2) po_none (po_some (pv 3))) (pe_lst (pa_cons (pv 5) pa_nil))) (pe_slice sl_list (pv 2) (po_some (pe_op op_add (pv 3) (pe_ifExp (pt_cmpR op_eq (pv 6) pe_int (nomark _)) pe_int pe_int))) po_none)) pa_nil))))))))))
, ?_⟩
    refine ⟨_, rfl, rfl, t, " ", rfl, rfl, by decide +kernel, by show t.length + 2 ≤ sizeLine; exact sz_line (by omega), fun L hL => ?_⟩
    have oL := own_mk (xs := (Txt.split t " ").map V.str) D3 hL
    have D4 := D3.new (o := .lst ((Txt.split t " ").map V.str)) hL
    have kp4 : Kp m l H l _ := Kp.new (o := .lst ((Txt.split t " ").map V.str)) hL
    generalize upd H L (.lst ((Txt.split t " ").map V.str)) = H4 at oL D4 kp4
    have hsum := split_sum t
    have hcnt := split_count t
    have hne := split_ne t
    generalize Txt.split t " " = ws at oL hsum hcnt hne
    have h1 : 1 ≤ ws.length := List.length_pos_iff.mpr hne
    have wl : (ws.map V.str).length = ws.length := List.length_map ..
    refine ⟨_, rfl, _, rfl, L, _, rfl, .inl (SqL.of oL.st), m, c, l, k + 3, _, rfl, by rw [wl]; omega, by rw [wl]; omega, D4, fun at' l5 H5 a0 a1 kp5 D5 => ?_⟩
    rw [wl] at a1
    have oL := oL.kp kp5
    have kp5 := kp4.trans kp5
    refine ⟨by show 15 ≤ sizeLine; decide, fun S hS => ?_⟩
    have oS := own_mk (xs := [V.str "", V.str "-", V.str "0", V.str "-0", V.str "01", V.str "+5", V.str "99999", V.str "100000", V.str "-32768", V.str "32768", V.str "1", V.str "-1", V.str "33", V.str "16", V.str "levels"]) D5 hS
    have sS := same_new (o := .lst [V.str "", V.str "-", V.str "0", V.str "-0", V.str "01", V.str "+5", V.str "99999", V.str "100000", V.str "-32768", V.str "32768", V.str "1", V.str "-1", V.str "33", V.str "16", V.str "levels"]) hS
    have oL := oL.same sS
    have D6 := D5.new (o := .lst [V.str "", V.str "-", V.str "0", V.str "-0", V.str "01", V.str "+5", V.str "99999", V.str "100000", V.str "-32768", V.str "32768", V.str "1", V.str "-1", V.str "33", V.str "16", V.str "levels"]) hS
    have kp6 := kp5.trans (Kp.new (o := .lst [V.str "", V.str "-", V.str "0", V.str "-0", V.str "01", V.str "+5", V.str "99999", V.str "100000", V.str "-32768", V.str "32768", V.str "1", V.str "-1", V.str "33", V.str "16", V.str "levels"]) hS)
    generalize upd H5 S (.lst [V.str "", V.str "-", V.str "0", V.str "-0", V.str "01", V.str "+5", V.str "99999", V.str "100000", V.str "-32768", V.str "32768", V.str "1", V.str "-1", V.str "33", V.str "16", V.str "levels"]) = H6 at oS oL D6 kp6
    refine ⟨_, rfl, "9", 3000, rfl, rfl, by decide, by decide, by decide, fun nines hnn => ⟨by show 4 ≤ sizeLine; decide, fun S2 hS2 => ?_⟩⟩
    have oS2 := own_mk (xs := [V.str "steps", V.str "move", V.str "MOVE", V.str nines]) D6 hS2
    have sS2 := same_new (o := .lst [V.str "steps", V.str "move", V.str "MOVE", V.str nines]) hS2
    have oL := oL.same sS2
    have oS := oS.same sS2
    have D7 := D6.new (o := .lst [V.str "steps", V.str "move", V.str "MOVE", V.str nines]) hS2
    have kp7 := kp6.trans (Kp.new (o := .lst [V.str "steps", V.str "move", V.str "MOVE", V.str nines]) hS2)
    generalize upd H6 S2 (.lst [V.str "steps", V.str "move", V.str "MOVE", V.str nines]) = H7 at oS oS2 oL D7 kp7
    refine ⟨S, S2, _, _, rfl, rfl, oS.st, oS2.st, by show 15 + 4 ≤ sizeLine; decide, fun S3 hS3 => ?_⟩
    have hsome : ∀ v ∈ [V.str "", V.str "-", V.str "0", V.str "-0", V.str "01", V.str "+5", V.str "99999", V.str "100000", V.str "-32768", V.str "32768", V.str "1", V.str "-1", V.str "33", V.str "16", V.str "levels"] ++ [V.str "steps", V.str "move", V.str "MOVE", V.str nines], ∃ x : Str, v = .str x ∧ x.length ≤ 3000 := fun v hv => by
      have lit : ∀ x ∈ (["", "-", "0", "-0", "01", "+5", "99999", "100000", "-32768", "32768", "1", "-1", "33", "16", "levels", "steps", "move", "MOVE"] : List Str), x.length ≤ 3000 := by decide +kernel
      simp only [List.mem_cons, List.not_mem_nil, or_false, List.mem_append] at hv
      rcases hv with (e | e | e | e | e | e | e | e | e | e | e | e | e | e | e) | e | e | e | e
      all_goals first
        | exact ⟨nines, e, by rw [hnn]; decide⟩
        | exact ⟨_, e, lit _ (by simp)⟩
    have hsl : ([V.str "", V.str "-", V.str "0", V.str "-0", V.str "01", V.str "+5", V.str "99999", V.str "100000", V.str "-32768", V.str "32768", V.str "1", V.str "-1", V.str "33", V.str "16", V.str "levels"] ++ [V.str "steps", V.str "move", V.str "MOVE", V.str nines] : List V).length = 19 := rfl
    generalize [V.str "", V.str "-", V.str "0", V.str "-0", V.str "01", V.str "+5", V.str "99999", V.str "100000", V.str "-32768", V.str "32768", V.str "1", V.str "-1", V.str "33", V.str "16", V.str "levels"] ++ [V.str "steps", V.str "move", V.str "MOVE", V.str nines] = some19 at hsome hsl
    have oS3 := own_mk (xs := some19) D7 hS3
    have sS3 := same_new (o := .lst some19) hS3
    have oL := oL.same sS3
    have D8 := D7.new (o := .lst some19) hS3
    have kp8 := kp7.trans (Kp.new (o := .lst some19) hS3)
    generalize upd H7 S3 (.lst some19) = H8 at oS3 oL D8 kp8
    refine ⟨_, rfl, _, rfl, m, c, l5, k + 2, 19, rfl, by decide, by decide, D8, fun g2 l9 H9 g20 g21 kp9 D9 => ?_⟩
    obtain ⟨v, hat, hmem⟩ := atI_lt (xs := some19) g20 (by rw [hsl]; exact g21)
    obtain ⟨x, rfl, hx⟩ := hsome v hmem
    have oL := oL.kp kp9
    have oS3 := oS3.kp kp9
    have kp9 := kp8.trans kp9
    refine ⟨S3, _, g2, .str x, rfl, rfl, SqL.of oS3.st, hat, ?_⟩
    refine ⟨_, rfl, m, c, l9, k + 1, 3, rfl, by decide, by decide, D9, fun way l10 H10 w0 w1 kp10 D10 => ⟨_, _, rfl, ?_⟩⟩
    have oL := oL.kp kp10
    have kp10 := kp9.trans kp10
    obtain ⟨j, rfl⟩ : ∃ j : Nat, at' = (j : Int) := ⟨at'.toNat, by omega⟩
    have ej : cutV (ws.map V.str) none (some (j : Int)) = (ws.take j).map V.str := by
      rw [cut_take (by rw [wl]; omega), List.map_take]
    have tl := lenS_take ws j
    have cl := lenS_count (ws.take j)
    refine ⟨_, rfl, rfl, _, rfl, ?_⟩
    refine ite2 (fun hw0 => ?_) (fun hw0 => ?_)
    · refine ⟨rfl, _, rfl, _, rfl, (j : Int), rfl, L, _, rfl, SqL.of oL.st, fun G hG => ?_⟩
      rw [ej]
      have oG := own_mk (xs := (ws.take j).map V.str) D10 hG
      have oL := oL.same (same_new (o := .lst ((ws.take j).map V.str)) hG)
      have D12 := D10.new (o := .lst ((ws.take j).map V.str)) hG
      have kp12 := kp10.trans (Kp.new (o := .lst ((ws.take j).map V.str)) hG)
      generalize upd H10 G (.lst ((ws.take j).map V.str)) = H12 at oG oL D12 kp12
      refine ⟨_, rfl, _, rfl, (j : Int), 1, rfl, rfl, _, rfl, L, _, rfl, SqL.of oL.st, fun Z hZ => ?_⟩
      have ed : cutV (ws.map V.str) (some ((j : Int) + 1)) none = (ws.drop (j + 1)).map V.str := by
        rw [show ((j : Int) + 1 : Int) = ((j + 1 : Nat) : Int) by omega, cut_drop (by rw [wl]; omega), List.map_drop]
      rw [ed]
      have sZ := same_new (o := .lst ((ws.drop (j + 1)).map V.str)) hZ
      have oZ := own_mk (xs := (ws.drop (j + 1)).map V.str) D12 hZ
      have oG := oG.same sZ
      have D11 := D12.new (o := .lst ((ws.drop (j + 1)).map V.str)) hZ
      have kp11 := kp12.trans (Kp.new (o := .lst ((ws.drop (j + 1)).map V.str)) hZ)
      generalize upd H12 Z (.lst ((ws.drop (j + 1)).map V.str)) = H11 at oG oZ D11 kp11
      have dl := lenS_drop ws (j + 1)
      have c1 := lenS_count (ws.take j)
      have c2 := lenS_count (ws.drop (j + 1))
      refine ⟨G, Z, _, _, rfl, rfl, oG.st, oZ.st, ?_, fun J hJ => ?_⟩
      · rw [List.length_map, List.length_map]
        exact sz_line (by omega)
      rw [show (ws.take j).map V.str ++ (ws.drop (j + 1)).map V.str = (ws.take j ++ ws.drop (j + 1)).map V.str from List.map_append.symm]
      have lall : lenS (ws.take j ++ ws.drop (j + 1)) = lenS (ws.take j) + lenS (ws.drop (j + 1)) := lenS_app _ _
      have hrow := row_sum (ws.take j ++ ws.drop (j + 1))
      have hsm := lenS_sum (ws.take j ++ ws.drop (j + 1))
      have hm1 : (ws.take j ++ ws.drop (j + 1)).length * (" " : Str).length ≤ (ws.take j ++ ws.drop (j + 1)).length * 1 := Nat.mul_le_mul (Nat.le_refl _) len_bl
      refine ⟨" ", J, ws.take j ++ ws.drop (j + 1), rfl, rfl, .inl (SqL.of upd_same), by omega, ?_⟩
      exact q _ 1 l10 _ (by show (rowT _).length ≤ _; omega) (kp11.trans (Kp.new hJ)) (D11.new hJ)
    · refine ⟨rfl, _, rfl, _, rfl, (j : Int), rfl, L, _, rfl, SqL.of oL.st, fun A hA => ?_⟩
      rw [ej]
      have oA := own_mk (xs := (ws.take j).map V.str) D10 hA
      have oL := oL.same (same_new (o := .lst ((ws.take j).map V.str)) hA)
      have D12 := D10.new (o := .lst ((ws.take j).map V.str)) hA
      have kp12 := kp10.trans (Kp.new (o := .lst ((ws.take j).map V.str)) hA)
      generalize upd H10 A (.lst ((ws.take j).map V.str)) = H12 at oA oL D12 kp12
      refine ⟨_, rfl, by show 1 ≤ sizeLine; decide, fun B hB => ?_⟩
      have sB := same_new (o := .lst [V.str x]) hB
      have oB := own_mk (xs := [V.str x]) D12 hB
      have oA := oA.same sB
      have oL := oL.same sB
      have D13 := D12.new (o := .lst [V.str x]) hB
      have kp13 := kp12.trans (Kp.new (o := .lst [V.str x]) hB)
      generalize upd H12 B (.lst [V.str x]) = H13 at oA oL oB D13 kp13
      refine ⟨A, B, _, _, rfl, rfl, oA.st, oB.st, ?_, fun G hG => ?_⟩
      · rw [List.length_map]
        exact sz_line (by rw [List.length_singleton]; omega)
      rw [show (ws.take j).map V.str ++ [V.str x] = (ws.take j ++ [x]).map V.str by rw [List.map_append]; rfl]
      have sG := same_new (o := .lst ((ws.take j ++ [x]).map V.str)) hG
      have oG := own_mk (xs := (ws.take j ++ [x]).map V.str) D13 hG
      have oL := oL.same sG
      have D14 := D13.new (o := .lst ((ws.take j ++ [x]).map V.str)) hG
      have kp14 := kp13.trans (Kp.new (o := .lst ((ws.take j ++ [x]).map V.str)) hG)
      generalize upd H13 G (.lst ((ws.take j ++ [x]).map V.str)) = H14 at oG oL D14 kp14
      have lx : lenS (ws.take j ++ [x]) ≤ lenS ws + 3001 := by
        rw [lenS_app, lenS_cons]
        have : lenS [] = 0 := rfl
        omega
      refine ⟨_, rfl, _, rfl, _, rfl, rfl, _, rfl, ?_⟩
      refine ite2 (fun hw2 => ?_) (fun hw2 => ?_)
      · refine ⟨(j : Int), 0, rfl, rfl, _, rfl, L, _, rfl, SqL.of oL.st, fun Z hZ => ?_⟩
        have ed : cutV (ws.map V.str) (some ((j : Int) + 0)) none = (ws.drop (j)).map V.str := by
          rw [show ((j : Int) + 0 : Int) = ((j : Nat) : Int) by omega, cut_drop (by rw [wl]; omega), List.map_drop]
        rw [ed]
        have sZ := same_new (o := .lst ((ws.drop (j)).map V.str)) hZ
        have oZ := own_mk (xs := (ws.drop (j)).map V.str) D14 hZ
        have oG := oG.same sZ
        have D11 := D14.new (o := .lst ((ws.drop (j)).map V.str)) hZ
        have kp11 := kp14.trans (Kp.new (o := .lst ((ws.drop (j)).map V.str)) hZ)
        generalize upd H14 Z (.lst ((ws.drop (j)).map V.str)) = H11 at oG oZ D11 kp11
        have dl := lenS_drop ws (j)
        have c1 := lenS_count (ws.take j ++ [x])
        have c2 := lenS_count (ws.drop (j))
        refine ⟨G, Z, _, _, rfl, rfl, oG.st, oZ.st, ?_, fun J hJ => ?_⟩
        · rw [List.length_map, List.length_map]
          exact sz_line (by omega)
        rw [show (ws.take j ++ [x]).map V.str ++ (ws.drop (j)).map V.str = (ws.take j ++ [x] ++ ws.drop (j)).map V.str from List.map_append.symm]
        have lall : lenS (ws.take j ++ [x] ++ ws.drop (j)) = lenS (ws.take j ++ [x]) + lenS (ws.drop (j)) := lenS_app _ _
        have hrow := row_sum (ws.take j ++ [x] ++ ws.drop (j))
        have hsm := lenS_sum (ws.take j ++ [x] ++ ws.drop (j))
        have hm1 : (ws.take j ++ [x] ++ ws.drop (j)).length * (" " : Str).length ≤ (ws.take j ++ [x] ++ ws.drop (j)).length * 1 := Nat.mul_le_mul (Nat.le_refl _) len_bl
        refine ⟨" ", J, ws.take j ++ [x] ++ ws.drop (j), rfl, rfl, .inl (SqL.of upd_same), by omega, ?_⟩
        exact q _ 1 l10 _ (by show (rowT _).length ≤ _; omega) (kp11.trans (Kp.new hJ)) (D11.new hJ)
      · refine ⟨(j : Int), 1, rfl, rfl, _, rfl, L, _, rfl, SqL.of oL.st, fun Z hZ => ?_⟩
        have ed : cutV (ws.map V.str) (some ((j : Int) + 1)) none = (ws.drop (j + 1)).map V.str := by
          rw [show ((j : Int) + 1 : Int) = ((j + 1 : Nat) : Int) by omega, cut_drop (by rw [wl]; omega), List.map_drop]
        rw [ed]
        have sZ := same_new (o := .lst ((ws.drop (j + 1)).map V.str)) hZ
        have oZ := own_mk (xs := (ws.drop (j + 1)).map V.str) D14 hZ
        have oG := oG.same sZ
        have D11 := D14.new (o := .lst ((ws.drop (j + 1)).map V.str)) hZ
        have kp11 := kp14.trans (Kp.new (o := .lst ((ws.drop (j + 1)).map V.str)) hZ)
        generalize upd H14 Z (.lst ((ws.drop (j + 1)).map V.str)) = H11 at oG oZ D11 kp11
        have dl := lenS_drop ws (j + 1)
        have c1 := lenS_count (ws.take j ++ [x])
        have c2 := lenS_count (ws.drop (j + 1))
        refine ⟨G, Z, _, _, rfl, rfl, oG.st, oZ.st, ?_, fun J hJ => ?_⟩
        · rw [List.length_map, List.length_map]
          exact sz_line (by omega)
        rw [show (ws.take j ++ [x]).map V.str ++ (ws.drop (j + 1)).map V.str = (ws.take j ++ [x] ++ ws.drop (j + 1)).map V.str from List.map_append.symm]
        have lall : lenS (ws.take j ++ [x] ++ ws.drop (j + 1)) = lenS (ws.take j ++ [x]) + lenS (ws.drop (j + 1)) := lenS_app _ _
        have hrow := row_sum (ws.take j ++ [x] ++ ws.drop (j + 1))
        have hsm := lenS_sum (ws.take j ++ [x] ++ ws.drop (j + 1))
        have hm1 : (ws.take j ++ [x] ++ ws.drop (j + 1)).length * (" " : Str).length ≤ (ws.take j ++ [x] ++ ws.drop (j + 1)).length * 1 := Nat.mul_le_mul (Nat.le_refl _) len_bl
        refine ⟨" ", J, ws.take j ++ [x] ++ ws.drop (j + 1), rfl, rfl, .inl (SqL.of upd_same), by omega, ?_⟩
        exact q _ 1 l10 _ (by show (rowT _).length ≤ _; omega) (kp11.trans (Kp.new hJ)) (D11.new hJ)
end
end My

set_option pp.maxSteps 400
namespace My
open PySem PySem.Spec PyProof.Rows L2
theorem signs_at {g : Int} (h0 : 0 ≤ g) (h1 : g < 22) : ∃ c, atI ("0123456789 \n-+levstpmo" : Str).cps.toList g = some c := by
  have e : ("0123456789 \n-+levstpmo" : Str).cps.toList.length = 22 := by decide +kernel
  obtain ⟨v, hv, _⟩ := atI_lt (xs := ("0123456789 \n-+levstpmo" : Str).cps.toList) h0 (by rw [e]; exact h1)
  exact ⟨v, hv⟩
theorem lenS_td (ws : List Str) (j : Nat) : lenS (ws.take j) + lenS (ws.drop (j + 1)) ≤ lenS ws := by
  have e : lenS (ws.take j) + lenS (ws.drop j) = lenS ws := by rw [← lenS_app, List.take_append_drop]
  have : (ws.drop (j + 1)) = (ws.drop j).drop 1 := by rw [List.drop_drop]
  have h := lenS_drop (ws.drop j) 1
  rw [this]
  omega
theorem lenS_tt (ws : List Str) (j : Nat) : lenS (ws.take j) + lenS (ws.drop j) = lenS ws := by rw [← lenS_app, List.take_append_drop]
theorem lenS_rep (r : Str) (n : Nat) : lenS (List.replicate n r) = n * (r.length + 1) := by
  induction n with
  | zero => rw [Nat.zero_mul]; rfl
  | succ n ih => rw [List.replicate_succ, lenS_cons, ih, Nat.succ_mul]; omega
section
variable {P : Program} {w : World} {K : PySem.W.Frag} {mg : Str → Option Value} {base : Heap}
def sp_bent : Sp := fun vs H Q _ => ∃ (m c l : Addr) (k : Nat) (t : Str), vs = [.ref m, .str t] ∧ t.length ≤ 90000 ∧ Dr H m c l (k + 8) ∧
  ∀ (u : Str) (l' : Addr) (H' : Hp), u.length ≤ 3 * t.length + 3200 → Kp m l H l' H' → Dr H' m c l' k → Q (.str u) H'
set_option maxHeartbeats 4000000 in
theorem ok_law_bent (T : Txt K mg) : FnOk P w K mg base CX0 4 T.f__law_bent T.d__law_bent ["m", "text"] sp_bent := by
  refine T.F__law_bent.ok sc_law_bent (fun vs H Q E h => ?_) (fun cdv A outer s H vs Q E hr h => ?_)
  · obtain ⟨m, c, l, k, t, rfl, _⟩ := h
    rfl
  · obtain ⟨m, c, l, k, t, rfl, hlen, D0, q⟩ := h
    have q : ∀ (u : Str) (n : Nat) l' H', u.length ≤ 3 * t.length + 3200 → Kp m l H l' H' → Dr H' m c l' (k + n) → Q (.str u) H' := fun u n l' H' h kp D => q u l' H' h kp (D.less (by omega))
    refine ⟨_,
(pss_cons (ps_set (i := 2) sc_law_bent.nd rfl (Or.inl rfl) (pe_call (ok_law_next T) (hr.mono (by decide)) (by rfl) T.g__law_next T.F__law_next.kp T.b__law_next .nil pass0 (pa_cons (pv 0) (pa_cons pe_int pa_nil))))
      (pss_cons (ps_if (pt_cmpR op_lt (pv 2) pe_int (nomark _)) (pss_cons (ps_par (i := 3) (j := 4) (by rfl) sc_law_bent.nd rfl rfl (by decide) rfl rfl (pa_cons (pe_call (ok_law_next T) (hr.mono (by decide)) (by rfl) T.g__law_next T.F__law_next.kp T.b__law_next .nil pass0 (pa_cons (pv 0) (pa_cons (pe_op op_add (pe_callB call_len_str (by rfl) T.z_len (by decide +kernel) (pa_cons (pv 1) pa_nil)) pe_int) pa_nil))) (pa_cons (pe_ix ix_str pe_str (pe_call (ok_law_next T) (hr.mono (by decide)) (by rfl) T.g__law_next T.F__law_next.kp T.b__law_next .nil pass0 (pa_cons (pv 0) (pa_cons pe_int pa_nil))) (fun _ _ => rfl)) pa_nil)) (by rfl))
      (pss_cons (ps_set (i := 5) sc_law_bent.nd rfl (Or.inl rfl) (pe_ifExp (pt_cmpR op_eq (pe_call (ok_law_next T) (hr.mono (by decide)) (by rfl) T.g__law_next T.F__law_next.kp T.b__law_next .nil pass0 (pa_cons (pv 0) (pa_cons pe_int pa_nil))) pe_int (nomark _)) (pe_slice sl_str (pv 1) (po_some (pv 3)) po_none) (pe_slice sl_str (pv 1) (po_some (pe_op op_add (pv 3) pe_int)) po_none)))
      (pss_one (ps_ret (pe_op op_add_str (pe_op op_add_str (pe_slice sl_str (pv 1) po_none (po_some (pv 3))) (pe_ifExp (pt_cmpR op_eq (pv 2) pe_int (nomark _)) (pv 4) pe_str)) (pv 5)))))) pss_nil)
      (pss_cons (ps_set (i := 6) sc_law_bent.nd rfl (Or.inl rfl) (pe_bm PySem.F.plainAttrs_str PySem.F.slot_str_split PySem.F.type_str_split mt_split (pv 1) (pa_cons pe_str pa_nil)))
      (pss_cons (ps_par (i := 7) (j := 8) (by rfl) sc_law_bent.nd rfl rfl (by decide) rfl rfl (pa_cons (pe_call (ok_law_next T) (hr.mono (by decide)) (by rfl) T.g__law_next T.F__law_next.kp T.b__law_next .nil pass0 (pa_cons (pv 0) (pa_cons (pe_callB (call_len_seq) (by rfl) T.z_len (by decide +kernel) (pa_cons (pv 6) pa_nil)) pa_nil))) (pa_cons (pe_call (ok_law_next T) (hr.mono (by decide)) (by rfl) T.g__law_next T.F__law_next.kp T.b__law_next .nil pass0 (pa_cons (pv 0) (pa_cons (pe_callB (call_len_seq) (by rfl) T.z_len (by decide +kernel) (pa_cons (pv 6) pa_nil)) pa_nil))) pa_nil)) (by rfl))
      (pss_cons (ps_if (pt_cmpR op_lt (pv 2) pe_int (nomark _)) (pss_one (ps_ret (pe_bm PySem.F.plainAttrs_str PySem.F.slot_str_join PySem.F.type_str_join mt_join pe_str (pa_cons (pe_op op_cat (pe_op op_cat (pe_slice sl_list (pv 6) po_none (po_some (pv 7))) (pe_lst (pa_cons (pe_call (ok_law_bent_row T) (hr.mono (by decide)) (by rfl) T.g__law_bent_row T.F__law_bent_row.kp T.b__law_bent_row .nil pass0 (pa_cons (pv 0) (pa_cons (pe_ix ix_list (pv 6) (pv 7) (fun _ _ => rfl)) pa_nil))) pa_nil))) (pe_slice sl_list (pv 6) (po_some (pe_op op_add (pv 7) pe_int)) po_none)) pa_nil)))) pss_nil)
      (pss_cons (ps_if (pt_cmpR op_eq (pv 2) pe_int (nomark _)) (pss_one (ps_ret (pe_bm PySem.F.plainAttrs_str PySem.F.slot_str_join PySem.F.type_str_join mt_join pe_str (pa_cons (pe_op op_cat (pe_slice sl_list (pv 6) po_none (po_some (pv 7))) (pe_slice sl_list (pv 6) (po_some (pe_op op_add (pv 7) pe_int)) po_none)) pa_nil)))) pss_nil)
      (pss_cons (ps_set (i := 9) sc_law_bent.nd rfl (Or.inl rfl) (pe_op op_add pe_int (pe_call (ok_law_next T) (hr.mono (by decide)) (by rfl) T.g__law_next T.F__law_next.kp T.b__law_next .nil pass0 (pa_cons (pv 0) (pa_cons pe_int pa_nil)))))
      (pss_one (ps_ret (pe_bm PySem.F.plainAttrs_str PySem.F.slot_str_join PySem.F.type_str_join mt_join pe_str (pa_cons (pe_op op_cat (pe_op op_cat (pe_slice sl_list (pv 6) po_none (po_some (pv 8))) (pe_op op_rep (pe_lst (pa_cons (pe_ix ix_list (pv 6) (pv 7) (fun _ _ => rfl)) pa_nil)) (pe_ifExp (pt_cmpR op_lt (pe_callB call_len_str (by rfl) T.z_len (by decide +kernel) (pa_cons (pe_ix ix_list (pv 6) (pv 7) (fun _ _ => rfl)) pa_nil)) pe_int (nomark _)) (pv 9) pe_int))) (pe_slice sl_list (pv 6) (po_some (pv 8)) po_none)) pa_nil)))))))))))
, ?_⟩
    refine ⟨_, rfl, m, c, l, k + 7, 6, rfl, by decide, by decide, D0, fun way l1 H1 w0 w1 kp1 D1 => ?_⟩
    refine ⟨_, rfl, _, _, rfl, rfl, _, rfl, ?_⟩
    refine ite2 (fun hw => ?_) (fun hw => ?_)
    · refine ⟨_, rfl, _, rfl, t, rfl, sz_line (by omega), _, _, rfl, rfl, m, c, l1, k + 6, _, rfl, by omega, by omega, D1, fun place l2 H2 p0 p1 kp2 D2 => ?_⟩
      refine ⟨_, rfl, m, c, l2, k + 5, 22, rfl, by decide, by decide, D2, fun g l3 H3 g0 g1 kp3 D3 => ?_⟩
      obtain ⟨ch, hch⟩ := signs_at g0 g1
      refine ⟨"0123456789 \n-+levstpmo", g, ch, rfl, rfl, by decide +kernel, hch, _, _, rfl, ?_⟩
      have kp3 := (kp1.trans kp2).trans kp3
      have hsg : (⟨#[ch]⟩ : Str).length = 1 := rfl
      dsimp only
      refine st_tail (fun σ H' => ∃ (u : Str) (l' : Addr), σ = [some (.ref m), some (.str t), some (.int way), some (.int place), some (.str ⟨#[ch]⟩), some (.str u), none, none, none, none] ∧ u.length ≤ t.length ∧ Kp m l H l' H' ∧ Dr H' m c l' (k + 4)) ?_ fun tail => ?_
      · rintro σ H4 ⟨u, l4, rfl, hu, kp4, D4⟩
        have hcut := cutS_length t none (some place)
        have fin : ∀ (x : Str), x.length ≤ 1 → Q (.str ((cutS t none (some place) ++ x) ++ u)) H4 := fun x hx => by
          refine q _ 4 l4 H4 ?_ kp4 D4
          rw [strLen_append, strLen_append]
          omega
        refine ⟨_, rfl, _, rfl, place, rfl, t, rfl, sz_line (by omega), _, rfl, rfl, _, rfl, ?_⟩
        refine ite2 (fun hw0 => ?_) (fun hw0 => ?_)
        · refine ⟨_, rfl, _, _, rfl, rfl, sz_line (by rw [hsg]; omega), _, rfl, _, _, rfl, rfl, sz_line (by rw [strLen_append, hsg]; omega), fin _ (Nat.le_refl _)⟩
        · have e0 : ("" : Str).length = 0 := rfl
          refine ⟨_, _, rfl, rfl, sz_line (by rw [e0]; omega), _, rfl, _, _, rfl, rfl, sz_line (by rw [strLen_append, e0]; omega), fin _ (by rw [e0]; omega)⟩
      · refine ⟨_, rfl, m, c, l3, k + 4, 2, rfl, by decide, by decide, D3, fun h l4 H4 h0 h1 kp4 D4 => ?_⟩
        have kp4 := kp3.trans kp4
        refine ⟨rfl, _, rfl, ?_⟩
        refine ite2 (fun e => ?_) (fun e => ?_)
        · exact ⟨_, rfl, _, rfl, place, rfl, t, rfl, sz_line (by omega), tail _ _ ⟨_, l4, rfl, cutS_length t _ _, kp4, D4⟩⟩
        · exact ⟨_, rfl, _, rfl, _, _, rfl, rfl, _, rfl, t, rfl, sz_line (by omega), tail _ _ ⟨_, l4, rfl, cutS_length t _ _, kp4, D4⟩⟩
    -- rows
    refine ⟨_, rfl, rfl, t, "\n", rfl, rfl, by decide +kernel, by show t.length + 2 ≤ sizeLine; exact sz_line (by omega), fun L hL => ?_⟩
    have oL := own_mk (xs := (Txt.split t "\n").map V.str) D1 hL
    have D4 := D1.new (o := .lst ((Txt.split t "\n").map V.str)) hL
    have kp4 := kp1.trans (Kp.new (o := .lst ((Txt.split t "\n").map V.str)) hL)
    generalize upd H1 L (.lst ((Txt.split t "\n").map V.str)) = H4 at oL D4 kp4
    have hsum := lines_sum t
    have hcnt := lines_count t
    have hne := lines_ne t
    have hmem : ∀ r ∈ Txt.split t "\n", r.length ≤ t.length + 1 := fun r hr => lines_mem hr
    generalize Txt.split t "\n" = ws at oL hsum hcnt hne hmem
    have h1 : 1 ≤ ws.length := List.length_pos_iff.mpr hne
    have wl : (ws.map V.str).length = ws.length := List.length_map ..
    refine ⟨_, rfl, _, rfl, L, _, rfl, .inl (SqL.of oL.st), m, c, l1, k + 6, _, rfl, by rw [wl]; omega, by rw [wl]; omega, D4, fun at' l5 H5 a0 a1 kp5 D5 => ?_⟩
    rw [wl] at a1
    have oL := oL.kp kp5
    have kp5 := kp4.trans kp5
    refine ⟨_, rfl, _, rfl, L, _, rfl, .inl (SqL.of oL.st), m, c, l5, k + 5, _, rfl, by rw [wl]; omega, by rw [wl]; omega, D5, fun to' l6 H6 b0 b1 kp6 D6 => ⟨_, _, rfl, ?_⟩⟩
    rw [wl] at b1
    have oL := oL.kp kp6
    have kp6 := kp5.trans kp6
    obtain ⟨j, rfl⟩ : ∃ j : Nat, at' = (j : Int) := ⟨at'.toNat, by omega⟩
    obtain ⟨i, rfl⟩ : ∃ i : Nat, to' = (i : Int) := ⟨to'.toNat, by omega⟩
    have hj : j < ws.length := by omega
    have hg : ws[j]? = some (ws[j]'hj) := List.getElem?_eq_getElem hj
    generalize ws[j]'hj = r at hg
    have hrl := hmem r (get_mem hg)
    have hgv : (ws.map V.str)[j]? = some (.str r) := get_map hg
    have ej : cutV (ws.map V.str) none (some (j : Int)) = (ws.take j).map V.str := by
      rw [cut_take (by rw [wl]; omega), List.map_take]
    have ei : cutV (ws.map V.str) none (some (i : Int)) = (ws.take i).map V.str := by
      rw [cut_take (by rw [wl]; omega), List.map_take]
    have tl := lenS_take ws j
    have ltd := lenS_td ws j
    have ltt := lenS_tt ws i
    have cl := lenS_count (ws.take j)
    have ci := lenS_count (ws.take i)
    refine ⟨_, rfl, _, _, rfl, rfl, _, rfl, ?_⟩
    refine ite2 (fun hw4 => ?_) (fun hw4 => ?_)
    · refine ⟨rfl, _, rfl, _, rfl, (j : Int), rfl, L, _, rfl, SqL.of oL.st, fun A hA => ?_⟩
      rw [ej]
      have oA := own_mk (xs := (ws.take j).map V.str) D6 hA
      have oL := oL.same (same_new (o := .lst ((ws.take j).map V.str)) hA)
      have D12 := D6.new (o := .lst ((ws.take j).map V.str)) hA
      have kp12 := kp6.trans (Kp.new (o := .lst ((ws.take j).map V.str)) hA)
      generalize upd H6 A (.lst ((ws.take j).map V.str)) = H12 at oA oL D12 kp12
      have D12 : Dr H12 m c l6 (k + 1 + 4) := D12
      refine ⟨_, rfl, _, rfl, _, rfl, L, _, (j : Int), .str r, rfl, rfl, SqL.of oL.st, atI_nat hgv, m, c, l6, k + 1, r, rfl, by omega, D12, fun x l13 H13 hx kp13 D13 => ⟨by show 1 ≤ sizeLine; decide, fun B hB => ?_⟩⟩
      have oA := oA.kp kp13
      have oL := oL.kp kp13
      have kp13 := kp12.trans kp13
      have sB := same_new (o := .lst [V.str x]) hB
      have oB := own_mk (xs := [V.str x]) D13 hB
      have oA := oA.same sB
      have oL := oL.same sB
      have D14 := D13.new (o := .lst [V.str x]) hB
      have kp14 := kp13.trans (Kp.new (o := .lst [V.str x]) hB)
      generalize upd H13 B (.lst [V.str x]) = H14 at oA oL oB D14 kp14
      refine ⟨A, B, _, _, rfl, rfl, oA.st, oB.st, ?_, fun G hG => ?_⟩
      · rw [List.length_map]
        exact sz_line (by rw [List.length_singleton]; omega)
      rw [show (ws.take j).map V.str ++ [V.str x] = (ws.take j ++ [x]).map V.str by rw [List.map_append]; rfl]
      have sG := same_new (o := .lst ((ws.take j ++ [x]).map V.str)) hG
      have oG := own_mk (xs := (ws.take j ++ [x]).map V.str) D14 hG
      have oL := oL.same sG
      have D15 := D14.new (o := .lst ((ws.take j ++ [x]).map V.str)) hG
      have kp15 := kp14.trans (Kp.new (o := .lst ((ws.take j ++ [x]).map V.str)) hG)
      generalize upd H14 G (.lst ((ws.take j ++ [x]).map V.str)) = H15 at oG oL D15 kp15
      have lx : lenS (ws.take j ++ [x]) = lenS (ws.take j) + (x.length + 1) := by
        rw [lenS_app, lenS_cons]
        have : lenS [] = 0 := rfl
        omega
      refine ⟨_, rfl, _, rfl, (j : Int), 1, rfl, rfl, _, rfl, L, _, rfl, SqL.of oL.st, fun Z hZ => ?_⟩
      have ed : cutV (ws.map V.str) (some ((j : Int) + 1)) none = (ws.drop (j + 1)).map V.str := by
        rw [show ((j : Int) + 1 : Int) = ((j + 1 : Nat) : Int) by omega, cut_drop (by rw [wl]; omega), List.map_drop]
      rw [ed]
      have sZ := same_new (o := .lst ((ws.drop (j + 1)).map V.str)) hZ
      have oZ := own_mk (xs := (ws.drop (j + 1)).map V.str) D15 hZ
      have oG := oG.same sZ
      have D11 := D15.new (o := .lst ((ws.drop (j + 1)).map V.str)) hZ
      have kp11 := kp15.trans (Kp.new (o := .lst ((ws.drop (j + 1)).map V.str)) hZ)
      generalize upd H15 Z (.lst ((ws.drop (j + 1)).map V.str)) = H11 at oG oZ D11 kp11
      have dl := lenS_drop ws (j + 1)
      have c1 := lenS_count (ws.take j ++ [x])
      have c2 := lenS_count (ws.drop (j + 1))
      refine ⟨G, Z, _, _, rfl, rfl, oG.st, oZ.st, ?_, fun J hJ => ?_⟩
      · rw [List.length_map, List.length_map]
        exact sz_line (by omega)
      rw [show (ws.take j ++ [x]).map V.str ++ (ws.drop (j + 1)).map V.str = (ws.take j ++ [x] ++ ws.drop (j + 1)).map V.str from List.map_append.symm]
      have lall : lenS (ws.take j ++ [x] ++ ws.drop (j + 1)) = lenS (ws.take j ++ [x]) + lenS (ws.drop (j + 1)) := lenS_app _ _
      have hrow := text_sum (ws.take j ++ [x] ++ ws.drop (j + 1))
      have hsm := lenS_sum (ws.take j ++ [x] ++ ws.drop (j + 1))
      have hm1 : (ws.take j ++ [x] ++ ws.drop (j + 1)).length * ("\n" : Str).length ≤ (ws.take j ++ [x] ++ ws.drop (j + 1)).length * 1 := Nat.mul_le_mul (Nat.le_refl _) len_lf
      refine ⟨"\n", J, ws.take j ++ [x] ++ ws.drop (j + 1), rfl, rfl, .inl (SqL.of upd_same), by omega, ?_⟩
      exact q _ 1 l13 _ (by show (textT _).length ≤ _; omega) (kp11.trans (Kp.new hJ)) (D11.new hJ)
    refine ⟨_, rfl, rfl, _, rfl, ?_⟩
    refine ite2 (fun hw5 => ?_) (fun hw5 => ?_)
    · refine ⟨rfl, _, rfl, _, rfl, (j : Int), rfl, L, _, rfl, SqL.of oL.st, fun G hG => ?_⟩
      rw [ej]
      have oG := own_mk (xs := (ws.take j).map V.str) D6 hG
      have oL := oL.same (same_new (o := .lst ((ws.take j).map V.str)) hG)
      have D12 := D6.new (o := .lst ((ws.take j).map V.str)) hG
      have kp12 := kp6.trans (Kp.new (o := .lst ((ws.take j).map V.str)) hG)
      generalize upd H6 G (.lst ((ws.take j).map V.str)) = H12 at oG oL D12 kp12
      refine ⟨_, rfl, _, rfl, (j : Int), 1, rfl, rfl, _, rfl, L, _, rfl, SqL.of oL.st, fun Z hZ => ?_⟩
      have ed : cutV (ws.map V.str) (some ((j : Int) + 1)) none = (ws.drop (j + 1)).map V.str := by
        rw [show ((j : Int) + 1 : Int) = ((j + 1 : Nat) : Int) by omega, cut_drop (by rw [wl]; omega), List.map_drop]
      rw [ed]
      have sZ := same_new (o := .lst ((ws.drop (j + 1)).map V.str)) hZ
      have oZ := own_mk (xs := (ws.drop (j + 1)).map V.str) D12 hZ
      have oG := oG.same sZ
      have D11 := D12.new (o := .lst ((ws.drop (j + 1)).map V.str)) hZ
      have kp11 := kp12.trans (Kp.new (o := .lst ((ws.drop (j + 1)).map V.str)) hZ)
      generalize upd H12 Z (.lst ((ws.drop (j + 1)).map V.str)) = H11 at oG oZ D11 kp11
      have dl := lenS_drop ws (j + 1)
      have c1 := lenS_count (ws.take j)
      have c2 := lenS_count (ws.drop (j + 1))
      refine ⟨G, Z, _, _, rfl, rfl, oG.st, oZ.st, ?_, fun J hJ => ?_⟩
      · rw [List.length_map, List.length_map]
        exact sz_line (by omega)
      rw [show (ws.take j).map V.str ++ (ws.drop (j + 1)).map V.str = (ws.take j ++ ws.drop (j + 1)).map V.str from List.map_append.symm]
      have lall : lenS (ws.take j ++ ws.drop (j + 1)) = lenS (ws.take j) + lenS (ws.drop (j + 1)) := lenS_app _ _
      have hrow := text_sum (ws.take j ++ ws.drop (j + 1))
      have hsm := lenS_sum (ws.take j ++ ws.drop (j + 1))
      have hm1 : (ws.take j ++ ws.drop (j + 1)).length * ("\n" : Str).length ≤ (ws.take j ++ ws.drop (j + 1)).length * 1 := Nat.mul_le_mul (Nat.le_refl _) len_lf
      refine ⟨"\n", J, ws.take j ++ ws.drop (j + 1), rfl, rfl, .inl (SqL.of upd_same), by omega, ?_⟩
      exact q _ 5 l6 _ (by show (textT _).length ≤ _; omega) (kp11.trans (Kp.new hJ)) (D11.new hJ)
    -- copies of a row
    refine ⟨_, rfl, m, c, l6, k + 4, 16, rfl, by decide, by decide, D6, fun tm l7 H7 t0 t1 kp7 D7 => ⟨1, tm, rfl, rfl, ?_⟩⟩
    have oL := oL.kp kp7
    have kp7 := kp6.trans kp7
    refine ⟨rfl, _, rfl, _, rfl, (i : Int), rfl, L, _, rfl, SqL.of oL.st, fun A hA => ?_⟩
    rw [ei]
    have oA := own_mk (xs := (ws.take i).map V.str) D7 hA
    have oL := oL.same (same_new (o := .lst ((ws.take i).map V.str)) hA)
    have D12 := D7.new (o := .lst ((ws.take i).map V.str)) hA
    have kp12 := kp7.trans (Kp.new (o := .lst ((ws.take i).map V.str)) hA)
    generalize upd H7 A (.lst ((ws.take i).map V.str)) = H12 at oA oL D12 kp12
    refine ⟨_, rfl, _, rfl, L, _, (j : Int), .str r, rfl, rfl, SqL.of oL.st, atI_nat hgv, by show 1 ≤ sizeLine; decide, fun B hB => ?_⟩
    have sB := same_new (o := .lst [V.str r]) hB
    have oB := own_mk (xs := [V.str r]) D12 hB
    have oA := oA.same sB
    have oL := oL.same sB
    have D13 := D12.new (o := .lst [V.str r]) hB
    have kp13 := kp12.trans (Kp.new (o := .lst [V.str r]) hB)
    generalize upd H12 B (.lst [V.str r]) = H13 at oA oL oB D13 kp13
    refine ⟨_, rfl, _, rfl, L, _, (j : Int), .str r, rfl, rfl, SqL.of oL.st, atI_nat hgv, r, rfl, sz_line (by omega), _, _, rfl, rfl, _, rfl, ?_⟩
    refine ite2 (fun h99 => ?_) (fun h99 => ?_)
    · skip
      obtain ⟨n, hn⟩ : ∃ n : Nat, 1 + tm = (n : Int) := ⟨(1 + tm).toNat, by omega⟩
      have hn1 : 1 ≤ n ∧ n ≤ 16 := by omega
      have hnr : n * (r.length + 1) ≤ t.length + 2000 := by
        have : n * (r.length + 1) ≤ 16 * 99 := Nat.mul_le_mul hn1.2 (by have := of_decide_eq_true h99; omega)
        omega
      have hrep : (List.replicate (1 + tm).toNat [V.str r]).flatten = (List.replicate n r).map V.str := by
        rw [hn, Int.toNat_natCast, rep_flat1, List.map_replicate]
      refine ⟨_, rfl, B, 1 + tm, _, rfl, rfl, oB.st, by omega, by omega, ?_, fun B2 hB2 => ?_⟩
      · rw [hn, Int.toNat_natCast]
        show 1 * n ≤ sizeLine
        exact sz_line (by omega)
      rw [hrep]
      have sB2 := same_new (o := .lst ((List.replicate n r).map V.str)) hB2
      have oB2 := own_mk (xs := (List.replicate n r).map V.str) D13 hB2
      have oA := oA.same sB2
      have oL := oL.same sB2
      have D14 := D13.new (o := .lst ((List.replicate n r).map V.str)) hB2
      have kp14 := kp13.trans (Kp.new (o := .lst ((List.replicate n r).map V.str)) hB2)
      generalize upd H13 B2 (.lst ((List.replicate n r).map V.str)) = H14 at oA oL oB2 D14 kp14
      refine ⟨A, B2, _, _, rfl, rfl, oA.st, oB2.st, ?_, fun G hG => ?_⟩
      · rw [List.length_map, List.length_map, List.length_replicate]
        exact sz_line (by omega)
      rw [show (ws.take i).map V.str ++ (List.replicate n r).map V.str = (ws.take i ++ List.replicate n r).map V.str from List.map_append.symm]
      have sG := same_new (o := .lst ((ws.take i ++ List.replicate n r).map V.str)) hG
      have oG := own_mk (xs := (ws.take i ++ List.replicate n r).map V.str) D14 hG
      have oL := oL.same sG
      have D15 := D14.new (o := .lst ((ws.take i ++ List.replicate n r).map V.str)) hG
      have kp15 := kp14.trans (Kp.new (o := .lst ((ws.take i ++ List.replicate n r).map V.str)) hG)
      generalize upd H14 G (.lst ((ws.take i ++ List.replicate n r).map V.str)) = H15 at oG oL D15 kp15
      have lx : lenS (ws.take i ++ List.replicate n r) = lenS (ws.take i) + n * (r.length + 1) := by
        rw [lenS_app, lenS_rep]
      refine ⟨_, rfl, _, rfl, (i : Int), rfl, L, _, rfl, SqL.of oL.st, fun Z hZ => ?_⟩
      have ed : cutV (ws.map V.str) (some ((i : Int))) none = (ws.drop (i)).map V.str := by
        rw [show ((i : Int) : Int) = ((i : Nat) : Int) by omega, cut_drop (by rw [wl]; omega), List.map_drop]
      rw [ed]
      have sZ := same_new (o := .lst ((ws.drop (i)).map V.str)) hZ
      have oZ := own_mk (xs := (ws.drop (i)).map V.str) D15 hZ
      have oG := oG.same sZ
      have D11 := D15.new (o := .lst ((ws.drop (i)).map V.str)) hZ
      have kp11 := kp15.trans (Kp.new (o := .lst ((ws.drop (i)).map V.str)) hZ)
      generalize upd H15 Z (.lst ((ws.drop (i)).map V.str)) = H11 at oG oZ D11 kp11
      have dl := lenS_drop ws (i)
      have c1 := lenS_count (ws.take i ++ List.replicate n r)
      have c2 := lenS_count (ws.drop (i))
      refine ⟨G, Z, _, _, rfl, rfl, oG.st, oZ.st, ?_, fun J hJ => ?_⟩
      · rw [List.length_map, List.length_map]
        exact sz_line (by omega)
      rw [show (ws.take i ++ List.replicate n r).map V.str ++ (ws.drop (i)).map V.str = (ws.take i ++ List.replicate n r ++ ws.drop (i)).map V.str from List.map_append.symm]
      have lall : lenS (ws.take i ++ List.replicate n r ++ ws.drop (i)) = lenS (ws.take i ++ List.replicate n r) + lenS (ws.drop (i)) := lenS_app _ _
      have hrow := text_sum (ws.take i ++ List.replicate n r ++ ws.drop (i))
      have hsm := lenS_sum (ws.take i ++ List.replicate n r ++ ws.drop (i))
      have hm1 : (ws.take i ++ List.replicate n r ++ ws.drop (i)).length * ("\n" : Str).length ≤ (ws.take i ++ List.replicate n r ++ ws.drop (i)).length * 1 := Nat.mul_le_mul (Nat.le_refl _) len_lf
      refine ⟨"\n", J, ws.take i ++ List.replicate n r ++ ws.drop (i), rfl, rfl, .inl (SqL.of upd_same), by omega, ?_⟩
      exact q _ 4 l7 _ (by show (textT _).length ≤ _; omega) (kp11.trans (Kp.new hJ)) (D11.new hJ)

    · skip
      obtain ⟨n, hn⟩ : ∃ n : Nat, (1 : Int) = (n : Int) := ⟨((1 : Int)).toNat, by omega⟩
      have hn1 : 1 ≤ n ∧ n ≤ 16 := by omega
      have hnr : n * (r.length + 1) ≤ t.length + 2000 := by
        have : n = 1 := by omega
        subst this
        omega
      have hrep : (List.replicate ((1 : Int)).toNat [V.str r]).flatten = (List.replicate n r).map V.str := by
        rw [hn, Int.toNat_natCast, rep_flat1, List.map_replicate]
      refine ⟨B, (1 : Int), _, rfl, rfl, oB.st, by omega, by omega, ?_, fun B2 hB2 => ?_⟩
      · rw [hn, Int.toNat_natCast]
        show 1 * n ≤ sizeLine
        exact sz_line (by omega)
      rw [hrep]
      have sB2 := same_new (o := .lst ((List.replicate n r).map V.str)) hB2
      have oB2 := own_mk (xs := (List.replicate n r).map V.str) D13 hB2
      have oA := oA.same sB2
      have oL := oL.same sB2
      have D14 := D13.new (o := .lst ((List.replicate n r).map V.str)) hB2
      have kp14 := kp13.trans (Kp.new (o := .lst ((List.replicate n r).map V.str)) hB2)
      generalize upd H13 B2 (.lst ((List.replicate n r).map V.str)) = H14 at oA oL oB2 D14 kp14
      refine ⟨A, B2, _, _, rfl, rfl, oA.st, oB2.st, ?_, fun G hG => ?_⟩
      · rw [List.length_map, List.length_map, List.length_replicate]
        exact sz_line (by omega)
      rw [show (ws.take i).map V.str ++ (List.replicate n r).map V.str = (ws.take i ++ List.replicate n r).map V.str from List.map_append.symm]
      have sG := same_new (o := .lst ((ws.take i ++ List.replicate n r).map V.str)) hG
      have oG := own_mk (xs := (ws.take i ++ List.replicate n r).map V.str) D14 hG
      have oL := oL.same sG
      have D15 := D14.new (o := .lst ((ws.take i ++ List.replicate n r).map V.str)) hG
      have kp15 := kp14.trans (Kp.new (o := .lst ((ws.take i ++ List.replicate n r).map V.str)) hG)
      generalize upd H14 G (.lst ((ws.take i ++ List.replicate n r).map V.str)) = H15 at oG oL D15 kp15
      have lx : lenS (ws.take i ++ List.replicate n r) = lenS (ws.take i) + n * (r.length + 1) := by
        rw [lenS_app, lenS_rep]
      refine ⟨_, rfl, _, rfl, (i : Int), rfl, L, _, rfl, SqL.of oL.st, fun Z hZ => ?_⟩
      have ed : cutV (ws.map V.str) (some ((i : Int))) none = (ws.drop (i)).map V.str := by
        rw [show ((i : Int) : Int) = ((i : Nat) : Int) by omega, cut_drop (by rw [wl]; omega), List.map_drop]
      rw [ed]
      have sZ := same_new (o := .lst ((ws.drop (i)).map V.str)) hZ
      have oZ := own_mk (xs := (ws.drop (i)).map V.str) D15 hZ
      have oG := oG.same sZ
      have D11 := D15.new (o := .lst ((ws.drop (i)).map V.str)) hZ
      have kp11 := kp15.trans (Kp.new (o := .lst ((ws.drop (i)).map V.str)) hZ)
      generalize upd H15 Z (.lst ((ws.drop (i)).map V.str)) = H11 at oG oZ D11 kp11
      have dl := lenS_drop ws (i)
      have c1 := lenS_count (ws.take i ++ List.replicate n r)
      have c2 := lenS_count (ws.drop (i))
      refine ⟨G, Z, _, _, rfl, rfl, oG.st, oZ.st, ?_, fun J hJ => ?_⟩
      · rw [List.length_map, List.length_map]
        exact sz_line (by omega)
      rw [show (ws.take i ++ List.replicate n r).map V.str ++ (ws.drop (i)).map V.str = (ws.take i ++ List.replicate n r ++ ws.drop (i)).map V.str from List.map_append.symm]
      have lall : lenS (ws.take i ++ List.replicate n r ++ ws.drop (i)) = lenS (ws.take i ++ List.replicate n r) + lenS (ws.drop (i)) := lenS_app _ _
      have hrow := text_sum (ws.take i ++ List.replicate n r ++ ws.drop (i))
      have hsm := lenS_sum (ws.take i ++ List.replicate n r ++ ws.drop (i))
      have hm1 : (ws.take i ++ List.replicate n r ++ ws.drop (i)).length * ("\n" : Str).length ≤ (ws.take i ++ List.replicate n r ++ ws.drop (i)).length * 1 := Nat.mul_le_mul (Nat.le_refl _) len_lf
      refine ⟨"\n", J, ws.take i ++ List.replicate n r ++ ws.drop (i), rfl, rfl, .inl (SqL.of upd_same), by omega, ?_⟩
      exact q _ 4 l7 _ (by show (textT _).length ≤ _; omega) (kp11.trans (Kp.new hJ)) (D11.new hJ)

end
end My

set_option pp.maxSteps 300
namespace My
open PySem PySem.Spec PyProof.Rows L2
theorem sh_words : ∀ s ∈ (["row", "coder", "form", "low", "high", "steps", "moves", "fade"] : List Str), (PyData.str s).showable = true ∧ (PyData.str s).hasDict = false ∧ (PyData.str s).depth = 0 ∧ (PyData.str s).shown.length ≤ 20 := by decide +kernel
theorem sh_word {s : Str} (h : s ∈ (["row", "coder", "form", "low", "high", "steps", "moves", "fade"] : List Str)) : Sh 0 1921 (.str s) := by
  obtain ⟨a, b, c, d⟩ := sh_words s h
  exact ⟨a, b, by rw [c]; exact Nat.le_refl _, Nat.le_trans d (by decide)⟩
theorem sh_non : Sh 0 1921 .none := ⟨rfl, rfl, Nat.le_refl _, by decide +kernel⟩
theorem sh_three {a b c : PyData} (h1 : Sh 0 1921 a) (h2 : Sh 0 1921 b) (h3 : Sh 0 1921 c) : Sh 1 6000 (.tuple [a, b, c]) :=
  (sh_tup (k := 0) (n := 1921) (ds := [a, b, c]) fun d hd => by
    rcases List.mem_cons.mp hd with e | hd
    · rw [e]; exact h1
    rcases List.mem_cons.mp hd with e | hd
    · rw [e]; exact h2
    · rw [List.mem_singleton.mp hd]; exact h3).mono (Nat.le_refl _) (by show 3 * (1921 + 2) + 3 ≤ 6000; decide)
theorem sh_list1 {k n : Nat} {a : PyData} (h1 : Sh k n a) : Sh (k + 1) (n + 2) (.list [a]) := by
  refine ⟨?_, ?_, ?_, ?_⟩
  · show (a.showable && true) = true
    rw [h1.sh]
    rfl
  · show (a.hasDict || false) = false
    rw [h1.nd]
    rfl
  · show max a.depth 0 + 1 ≤ k + 1
    have := h1.dp
    omega
  · show (listText [a.shown]).length ≤ _
    have e : listText [a.shown] = (((Str.ofString "[" ++ a.shown)) ++ Str.ofString "]") := rfl
    rw [e, strLen_append, strLen_append]
    have e1 : (Str.ofString "[").length = 1 := by decide
    have e2 : (Str.ofString "]").length = 1 := by decide
    have := h1.le
    omega
theorem sh_cod {C : Cod} (O : C.Ok) : Sh 3 400000 C.dat := by
  have a : Sh 2 70000 (.tuple (C.steps.map .int)) := (sh_ints fun z hz => by
    have := O.s3 z hz
    omega).mono (by decide) (by have := O.s2; omega)
  have b : Sh 2 70000 (.tuple (C.moves.map pairI)) := by
    refine (sh_tup (k := 1) (n := 4000) (ds := C.moves.map pairI) fun d hd => ?_).mono (Nat.le_refl _) (by rw [List.length_map]; have := O.m2; omega)
    obtain ⟨p, hp, rfl⟩ := List.mem_map.mp hd
    have := O.m3 p hp
    exact sh_pair (by omega) (by omega)
  have l := O.l1
  have l2 := O.l2
  have h1 := O.h1
  have h2 := O.h2
  have i : ∀ z : Int, z.natAbs < 2 ^ 64 → Sh 2 70000 (.int z) := fun z hz => (sh_int hz).mono (by decide) (by decide)
  refine (sh_tup (k := 2) (n := 70000) (ds := [.int C.low, .int C.high, .tuple (C.steps.map .int), .tuple (C.moves.map pairI), .int C.fade]) fun d hd => ?_).mono (Nat.le_refl _) (by simp)
  rcases List.mem_cons.mp hd with e | hd
  · rw [e]; exact i _ (by omega)
  rcases List.mem_cons.mp hd with e | hd
  · rw [e]; exact i _ (by omega)
  rcases List.mem_cons.mp hd with e | hd
  · rw [e]; exact a
  rcases List.mem_cons.mp hd with e | hd
  · rw [e]; exact b
  · rw [List.mem_singleton.mp hd]; exact i _ (by have := O.f1; omega)
theorem rowFault_le {name : Str} {least most : Nat} {ws : List Str} {f : Nat} (h : rowFault name least most ws = some f) : f ≤ ws.length + 1 := by
  unfold rowFault at h
  split at h
  · cases h; omega
  split at h
  case isFalse => cases h; omega
  cases e : (List.range ws.length).find? (badB most ws) with
  | some i =>
    rw [e] at h
    have hi := List.mem_range.mp (List.mem_of_find?_eq_some e)
    cases h
    omega
  | none =>
    rw [e] at h
    replace h : (if ws.length ≤ least then some (ws.length + 1) else none) = some f := h
    split at h
    · cases h; omega
    · cases h
theorem txtF_lt {t : Str} (ht : t.length ≤ 90000) {i j : Int} (h : txtF (rowsOf t) = some (i, j)) : i.natAbs < 2 ^ 64 ∧ j.natAbs < 2 ^ 64 := by
  have hl : (rowsOf t).length ≤ 90001 := by
    unfold rowsOf
    rw [List.length_map]
    have := lines_count t
    omega
  unfold txtF at h
  cases e : (List.range (rowsOf t).length).find? (fun k => (rowFk k ((rowsOf t).getD k [])).isSome) with
  | some k =>
    rw [e] at h
    have hk := List.mem_range.mp (List.mem_of_find?_eq_some e)
    have hW : (rowsOf t)[k]? = some ((rowsOf t)[k]'hk) := List.getElem?_eq_getElem hk
    replace h : some (((k : Int) + 1), (((rowFk k ((rowsOf t).getD k [])).getD 0 : Nat) : Int)) = some (i, j) := h
    rw [getR_of hW] at h
    have hwl : ((rowsOf t)[k]'hk).length ≤ 90010 := by
      obtain ⟨r, hr, e⟩ := map_get (show ((Txt.split t "\n").map fun r => Txt.split r " ")[k]? = some ((rowsOf t)[k]'hk) from hW)
      rw [e]
      have h1 := split_count r
      have h2 := lines_mem (get_mem hr)
      omega
    generalize (rowsOf t)[k]'hk = ws at h hwl
    cases h
    refine ⟨by omega, ?_⟩
    cases ef : rowFk k ws with
    | none => decide
    | some f =>
      have := rowFault_le ef
      show ((f : Int)).natAbs < _
      omega
  | none =>
    rw [e] at h
    replace h : (if (rowsOf t).length < 2 then some ((2 : Int), (0 : Int)) else none) = some (i, j) := h
    split at h
    · cases h
      constructor <;> decide
    · cases h
theorem sh_outC {t : Str} (ht : t.length ≤ 90000) : Sh 4 500000 (outC (some t)) := by
  cases h : txtF (rowsOf t) with
  | some p =>
    obtain ⟨i, j⟩ := p
    rw [outC_row h]
    have := txtF_lt ht h
    exact (sh_three (sh_word (by decide +kernel)) (sh_int this.1) (sh_int this.2)).mono (by decide) (by decide)
  | none =>
    rw [outC_cod h]
    rcases firstF_flt (codOf (rowsOf t)).dat with e | ⟨s, hs, e⟩
    · rw [e]
      obtain ⟨C, O, ec⟩ := firstF_cod e
      rw [ec]
      exact (sh_list1 (sh_cod O)).mono (by decide) (by decide)
    · have hs' : s ∈ (["row", "coder", "form", "low", "high", "steps", "moves", "fade"] : List Str) := List.mem_cons_of_mem _ (List.mem_cons_of_mem _ hs)
      rcases e with e | ⟨k, hk, e⟩
      · rw [e]
        exact (sh_three (sh_word (by decide +kernel)) (sh_word hs') sh_non).mono (by decide) (by decide)
      · rw [e]
        exact (sh_three (sh_word (by decide +kernel)) (sh_word hs') (sh_int (by omega))).mono (by decide) (by decide)
/-! the law's own texts -/
def some7 : List Str := ["", "levels", "levels 0 0 0", "levels 0 0 0\nsteps 1", "levels 0 0 0 0", "steps 1", "levels 0 0 0\n"]
def row3 (i j : Int) : PyData := .tuple [.str "row", .int i, .int j]
def due7 : List PyData := [row3 1 0, row3 1 2, row3 2 0, .tuple [.str "coder", .str "moves", .none], row3 1 5, row3 1 1, row3 2 0]
theorem four : outC (some "levels 0 0 0\nsteps 1") = .tuple [.str "coder", .str "moves", .none] := by
  have h : txtF (rowsOf "levels 0 0 0\nsteps 1") = none := by decide +kernel
  have e1 : (codOf (rowsOf "levels 0 0 0\nsteps 1")).low = 0 := by decide +kernel
  have e2 : (codOf (rowsOf "levels 0 0 0\nsteps 1")).high = 0 := by decide +kernel
  have e3 : (codOf (rowsOf "levels 0 0 0\nsteps 1")).steps = [1] := by decide +kernel
  have e4 : (codOf (rowsOf "levels 0 0 0\nsteps 1")).moves = [] := by decide +kernel
  have hf : firstF (codOf (rowsOf "levels 0 0 0\nsteps 1")).dat = .tuple [.str "moves", .none] := cod_moves (by rw [e1]; rfl) (by rw [e2]; rfl) (by rw [e3]; rfl) (by rw [e4]; rfl)
  rw [outC_cod h, hf]
  rfl
theorem all7 : some7.map (fun t => outC (some t)) = due7 := by
  have h1 : outC (some "") = row3 1 0 := outC_row (by decide +kernel)
  have h2 : outC (some "levels") = row3 1 2 := outC_row (by decide +kernel)
  have h3 : outC (some "levels 0 0 0") = row3 2 0 := outC_row (by decide +kernel)
  have h5 : outC (some "levels 0 0 0 0") = row3 1 5 := outC_row (by decide +kernel)
  have h6 : outC (some "steps 1") = row3 1 1 := outC_row (by decide +kernel)
  have h7 : outC (some "levels 0 0 0\n") = row3 2 0 := outC_row (by decide +kernel)
  show [outC (some ""), outC (some "levels"), outC (some "levels 0 0 0"), outC (some "levels 0 0 0\nsteps 1"), outC (some "levels 0 0 0 0"), outC (some "steps 1"), outC (some "levels 0 0 0\n")] = _
  rw [h1, h2, h3, four, h5, h6, h7]
  rfl
theorem some7_len : ∀ t ∈ some7, t.length ≤ 90000 := by decide +kernel
theorem shown_row : (row3 0 0).shown = "('row', 0, 0)" := by decide +kernel
end My

set_option pp.maxSteps 300
namespace My
open PySem PySem.Spec PyProof.Rows L2
theorem noL_row3 (i j : Int) : noL (row3 i j) = true := rfl
theorem noL_due (i : Nat) : noLs (due7.take i) = true := noLs_all fun d hd => by
  have h : ∀ d ∈ due7, noL d = true := fun d hd => by
    unfold due7 at hd
    simp only [List.mem_cons, List.not_mem_nil, or_false] at hd
    rcases hd with e | e | e | e | e | e | e <;> subst e <;> rfl
  exact h d (List.mem_of_mem_take hd)
theorem due_shaped : SeqAt.shaped (.list due7) = true := by decide +kernel
theorem dp_row3 {K : PySem.W.Frag} {H : Hp} {p : Addr} {i j : Int} (h : H p = some (.tup [.str "row", .int i, .int j])) : Dp K H (.ref p) (row3 i j) := .tup (.inl (.inl h)) (.cons (.str _) (.cons (.int _) (.cons (.int _) .nil)))
def bend (j : Nat) : Nat := if j = 0 then 1000 else if j = 1 then 6200 else if j = 2 then 21800 else 68600
section
variable {P : Program} {w : World} {K : PySem.W.Frag} {mg : Str → Option Value} {base : Heap}
def sp_law : Sp := fun vs H Q _ => ∃ (a : Addr) (ns : List Int), vs = [.ref a] ∧ SqL K H a (ns.map V.int) ∧ ns.length ≤ 63 ∧ ∀ H', Q (.bl true) H'
set_option maxHeartbeats 4000000 in
theorem ok_law (T : Txt K mg) : FnG P w K mg base 10 T.f_law T.d_law ["script"] (sp_law (K := K)) := by
  refine okG T.F_law sc_law (fun vs H Q E h => ?_) (fun cdv A outer s H vs Q E hgd hr h => ?_)
  · obtain ⟨a, ns, rfl, _⟩ := h
    rfl
  · obtain ⟨a, ns, rfl, hS, hl, q⟩ := h
    refine ⟨_,
(pss_cons (ps_set (i := 1) sc_law.nd rfl (Or.inl rfl) (pe_call (ok_law_begun T) (hr.mono (by decide)) (by rfl) T.g__law_begun T.F__law_begun.kp T.b__law_begun .nil pass0 (pa_cons (pv 0) pa_nil)))
      (pss_cons (ps_for PassesOwn.never rfl (pi_list (pe_lst (pa_cons pe_non (pa_cons pe_int (pa_cons pe_bl (pa_cons (pe_lst (pa_cons pe_str pa_nil)) (pa_cons (pe_tup pa_nil) (pa_cons pe_dnewK pa_nil)))))))) (pg_name (i := 2) sc_law.nd rfl (Or.inl rfl)) (pss_one (ps_if (pt_cmpR op_ne (pe_callB ((call_repr hgd hr.units)) (by rfl) T.z_repr (by decide +kernel) (pa_cons (pe_call (ok_law_outcome T) (hr.mono (by decide)) (by rfl) T.g__law_outcome T.F__law_outcome.kp T.b__law_outcome .nil pass0 (pa_cons (pv 2) pa_nil)) pa_nil)) pe_str (nomark _)) (pss_one (ps_ret pe_bl)) pss_nil)))
      (pss_cons (ps_set (i := 3) sc_law.nd rfl (Or.inl rfl) (pe_lst (pa_cons pe_str (pa_cons pe_str (pa_cons pe_str (pa_cons pe_str (pa_cons pe_str (pa_cons pe_str (pa_cons pe_str pa_nil)))))))))
      (pss_cons (ps_set (i := 4) sc_law.nd rfl (Or.inl rfl) (pe_lst (pa_cons (pe_tup (pa_cons pe_str (pa_cons pe_int (pa_cons pe_int pa_nil)))) (pa_cons (pe_tup (pa_cons pe_str (pa_cons pe_int (pa_cons pe_int pa_nil)))) (pa_cons (pe_tup (pa_cons pe_str (pa_cons pe_int (pa_cons pe_int pa_nil)))) (pa_cons (pe_tup (pa_cons pe_str (pa_cons pe_str (pa_cons pe_non pa_nil)))) (pa_cons (pe_tup (pa_cons pe_str (pa_cons pe_int (pa_cons pe_int pa_nil)))) (pa_cons (pe_tup (pa_cons pe_str (pa_cons pe_int (pa_cons pe_int pa_nil)))) pa_nil))))))))
      (pss_cons (ps_if (pt_cmpR (op_neD hr.units) (pe_lc (own := [("text", 5)]) rfl sc_law.nd (pi_list (pv 3)) (blkOk_by (own := [("text", 5)]) (N := ["script", "m", "thing", "some", "due", "text", "turn", "k"]) (sc := defScope s_law) (by decide +kernel)) (fun _ _ _ _ _ => (pg_name (i := 5) sc_law.nd rfl (Or.inl rfl))) (fun _ _ _ _ _ => pts_nil) (fun _ _ _ _ _ => (pe_call (ok_law_outcome T) (hr.mono (by decide)) (by rfl) T.g__law_outcome T.F__law_outcome.kp T.b__law_outcome .nil pass0 (pa_cons (pv 5) pa_nil)))) (pe_op op_cat (pv 4) (pe_lst (pa_cons (pe_tup (pa_cons pe_str (pa_cons pe_int (pa_cons pe_int pa_nil)))) pa_nil))) (nomark _)) (pss_one (ps_ret pe_bl)) pss_nil)
      (pss_cons (ps_for PassesOwn.never rfl (pi_range1 (by rfl) T.z_range (pa_cons (pe_op op_add pe_int (pe_callB (call_min2 rfl) (by rfl) T.z_min (by decide +kernel) (pa_cons (pe_callB (call_len_seq) (by rfl) T.z_len (by decide +kernel) (pa_cons (pv 0) pa_nil)) (pa_cons pe_int pa_nil)))) pa_nil)) (pg_name (i := 6) sc_law.nd rfl (Or.inl rfl)) (pss_cons (ps_set (i := 5) sc_law.nd rfl (Or.inl rfl) (pe_call (ok_law_text T) (hr.mono (by decide)) (by rfl) T.g__law_text T.F__law_text.kp T.b__law_text .nil pass0 (pa_cons (pv 1) pa_nil)))
      (pss_cons (ps_for PassesOwn.never rfl (pi_range1 (by rfl) T.z_range (pa_cons pe_int pa_nil)) (pg_name (i := 7) sc_law.nd rfl (Or.inl rfl)) (pss_cons (ps_if (pt_cmpR op_ne (pe_callB ((call_repr hgd hr.units)) (by rfl) T.z_repr (by decide +kernel) (pa_cons (pe_call (ok_law_outcome T) (hr.mono (by decide)) (by rfl) T.g__law_outcome T.F__law_outcome.kp T.b__law_outcome .nil pass0 (pa_cons (pv 5) pa_nil)) pa_nil)) (pe_callB ((call_repr hgd hr.units)) (by rfl) T.z_repr (by decide +kernel) (pa_cons (pe_call (ok_law_due T) (hr.mono (by decide)) (by rfl) T.g__law_due T.F__law_due.kp T.b__law_due .nil pass0 (pa_cons (pv 5) pa_nil)) pa_nil)) (nomark _)) (pss_one (ps_ret pe_bl)) pss_nil)
      (pss_one (ps_set (i := 5) sc_law.nd rfl (Or.inl rfl) (pe_call (ok_law_bent T) (hr.mono (by decide)) (by rfl) T.g__law_bent T.F__law_bent.kp T.b__law_bent .nil pass0 (pa_cons (pv 1) (pa_cons (pv 5) pa_nil)))))))
      (pss_one (ps_if (pt_cmpR op_ne (pe_callB ((call_repr hgd hr.units)) (by rfl) T.z_repr (by decide +kernel) (pa_cons (pe_call (ok_law_outcome T) (hr.mono (by decide)) (by rfl) T.g__law_outcome T.F__law_outcome.kp T.b__law_outcome .nil pass0 (pa_cons (pv 5) pa_nil)) pa_nil)) (pe_callB ((call_repr hgd hr.units)) (by rfl) T.z_repr (by decide +kernel) (pa_cons (pe_call (ok_law_due T) (hr.mono (by decide)) (by rfl) T.g__law_due T.F__law_due.kp T.b__law_due .nil pass0 (pa_cons (pv 5) pa_nil)) pa_nil)) (nomark _)) (pss_one (ps_ret pe_bl)) pss_nil)))))
      (pss_one (ps_ret pe_bl))))))))
, ?_⟩
    refine ⟨.ref a, rfl, a, ns, rfl, hS, hl, fun m c l H1 s1 hm hc hl0 D1 => ?_⟩
    have hS1 := s1.seq hS
    -- the things
    refine ⟨by show 1 ≤ sizeLine; decide, fun e1 he1 => ?_⟩
    have s9 := same_new (o := .lst [V.str "steps"]) he1
    have te1 : (upd H1 e1 (.lst [V.str "steps"])) e1 = some (.lst [V.str "steps"]) := upd_same
    generalize upd H1 e1 (.lst [V.str "steps"]) = H9 at s9 te1
    refine ⟨Nat.zero_le _, fun e2 he2 => ?_⟩
    have s10' := same_new (o := .tup []) he2
    have s10 := s9.trans s10'
    have te1 := s10' _ _ te1
    have te2 : (upd H9 e2 (.tup [])) e2 = some (.tup []) := upd_same
    generalize upd H9 e2 (.tup []) = H10 at s10 te1 te2 s10'
    intro e3 he3
    have s11' := same_new (o := .dK []) he3
    have s11 := s10.trans s11'
    have te1 := s11' _ _ te1
    have te2 := s11' _ _ te2
    have te3 : (upd H10 e3 (.dK [])) e3 = some (.dK []) := upd_same
    generalize upd H10 e3 (.dK []) = H11 at s11 te1 te2 te3 s11'
    refine ⟨by show 6 ≤ sizeLine; decide, fun M hM => ?_⟩
    have s12' := same_new (o := .lst [V.non, V.int 0, V.bl true, V.ref e1, V.ref e2, V.ref e3]) hM
    have s12 := s11.trans s12'
    have tM : (upd H11 M (.lst [V.non, V.int 0, V.bl true, V.ref e1, V.ref e2, V.ref e3])) M = some (.lst [V.non, V.int 0, V.bl true, V.ref e1, V.ref e2, V.ref e3]) := upd_same
    have te1 := s12' _ _ te1
    have te2 := s12' _ _ te2
    have te3 := s12' _ _ te3
    generalize upd H11 M (.lst [V.non, V.int 0, V.bl true, V.ref e1, V.ref e2, V.ref e3]) = H12 at s12 tM te3 te2 te1 s12'
    refine ⟨M, rfl, ⟨_, SqL.of tM⟩, ?_⟩
    refine for_list (K := K) (a := M) (xs := [V.non, V.int 0, V.bl true, V.ref e1, V.ref e2, V.ref e3]) (fun _ σ H' => ∃ y2, σ = [some (.ref a), some (.ref m), y2, none, none, none, none, none] ∧ Same H12 H') ⟨none, rfl, Same.refl _⟩ ?_ ?_ ?_
    · rintro i' σ H' _ ⟨_, _, s13⟩
      exact SqL.of (s13 _ _ tM)
    · rintro i' v σ H' hi' ⟨y2, rfl, s13⟩
      have hth : ThS K H' v none := by
        match i', hi' with
        | 0, h => cases h; exact ths_of .non (by decide +kernel)
        | 1, h => cases h; exact ths_of (.int _) (by decide +kernel)
        | 2, h => cases h; exact ths_of (.bl _) (by decide +kernel)
        | 3, h => cases h; exact ths_of (.lst (s13 _ _ te1)) (by decide +kernel)
        | 4, h => cases h; exact ths_of (.tup (s13 _ _ te2)) (by decide +kernel)
        | 5, h => cases h; exact ths_of (.dK (s13 _ _ te3)) (by decide +kernel)
      refine ⟨_, rfl, v, none, rfl, hth, fun _ h => (by cases h), fun v14 H14 s14 hv14 => ?_⟩
      have sho : Sh 1 6000 (row3 0 0) := sh_three (sh_word (by decide +kernel)) (sh_int (by decide)) (sh_int (by decide))
      refine ⟨_, row3 0 0, rfl, hv14, sho.sh, sho.nd, Nat.le_trans sho.dp (by decide), sz_line (Nat.le_trans sho.le (by decide)), ?_⟩
      rw [shown_row]
      refine ⟨rfl, _, rfl, iteNS rfl ?_⟩
      exact ⟨_, rfl, s13.trans s14⟩
    rintro σ H13 ⟨y2, rfl, s13⟩
    have D13 := D1.same (s12.trans s13)
    have hS13 := (s12.trans s13).seq hS1
    clear s9 s10 s10' s11 s11' s12' te1 te2 te3 tM s12 s13
    -- the law's own texts
    refine ⟨by show 7 ≤ sizeLine; decide, fun L hL => ?_⟩
    have s14 := same_new (o := .lst [V.str "", V.str "levels", V.str "levels 0 0 0", V.str "levels 0 0 0\nsteps 1", V.str "levels 0 0 0 0", V.str "steps 1", V.str "levels 0 0 0\n"]) hL
    have hL14 : (upd H13 L (.lst [V.str "", V.str "levels", V.str "levels 0 0 0", V.str "levels 0 0 0\nsteps 1", V.str "levels 0 0 0 0", V.str "steps 1", V.str "levels 0 0 0\n"])) L = some (.lst (some7.map V.str)) := upd_same
    generalize upd H13 L (.lst [V.str "", V.str "levels", V.str "levels 0 0 0", V.str "levels 0 0 0\nsteps 1", V.str "levels 0 0 0 0", V.str "steps 1", V.str "levels 0 0 0\n"]) = H14 at s14 hL14
    refine ⟨by show 3 ≤ sizeLine; decide, fun t0 ht0 => ?_⟩
    have s15' := same_new (o := .tup [V.str "row", V.int 1, V.int 0]) ht0
    have s15 := s14.trans s15'
    have hL15 := s15' _ _ hL14
    have a0_15 : (upd H14 t0 (.tup [V.str "row", V.int 1, V.int 0])) t0 = some (.tup [V.str "row", V.int 1, V.int 0]) := upd_same
    generalize upd H14 t0 (.tup [V.str "row", V.int 1, V.int 0]) = H15 at s15' s15 hL15 a0_15
    refine ⟨by show 3 ≤ sizeLine; decide, fun t1 ht1 => ?_⟩
    have s16' := same_new (o := .tup [V.str "row", V.int 1, V.int 2]) ht1
    have s16 := s15.trans s16'
    have hL16 := s16' _ _ hL15
    have a1_16 : (upd H15 t1 (.tup [V.str "row", V.int 1, V.int 2])) t1 = some (.tup [V.str "row", V.int 1, V.int 2]) := upd_same
    have a0_16 := s16' _ _ a0_15
    generalize upd H15 t1 (.tup [V.str "row", V.int 1, V.int 2]) = H16 at s16' s16 hL16 a0_16 a1_16
    refine ⟨by show 3 ≤ sizeLine; decide, fun t2 ht2 => ?_⟩
    have s17' := same_new (o := .tup [V.str "row", V.int 2, V.int 0]) ht2
    have s17 := s16.trans s17'
    have hL17 := s17' _ _ hL16
    have a2_17 : (upd H16 t2 (.tup [V.str "row", V.int 2, V.int 0])) t2 = some (.tup [V.str "row", V.int 2, V.int 0]) := upd_same
    have a0_17 := s17' _ _ a0_16
    have a1_17 := s17' _ _ a1_16
    generalize upd H16 t2 (.tup [V.str "row", V.int 2, V.int 0]) = H17 at s17' s17 hL17 a0_17 a1_17 a2_17
    refine ⟨by show 3 ≤ sizeLine; decide, fun t3 ht3 => ?_⟩
    have s18' := same_new (o := .tup [V.str "coder", V.str "moves", V.non]) ht3
    have s18 := s17.trans s18'
    have hL18 := s18' _ _ hL17
    have a3_18 : (upd H17 t3 (.tup [V.str "coder", V.str "moves", V.non])) t3 = some (.tup [V.str "coder", V.str "moves", V.non]) := upd_same
    have a0_18 := s18' _ _ a0_17
    have a1_18 := s18' _ _ a1_17
    have a2_18 := s18' _ _ a2_17
    generalize upd H17 t3 (.tup [V.str "coder", V.str "moves", V.non]) = H18 at s18' s18 hL18 a0_18 a1_18 a2_18 a3_18
    refine ⟨by show 3 ≤ sizeLine; decide, fun t4 ht4 => ?_⟩
    have s19' := same_new (o := .tup [V.str "row", V.int 1, V.int 5]) ht4
    have s19 := s18.trans s19'
    have hL19 := s19' _ _ hL18
    have a4_19 : (upd H18 t4 (.tup [V.str "row", V.int 1, V.int 5])) t4 = some (.tup [V.str "row", V.int 1, V.int 5]) := upd_same
    have a0_19 := s19' _ _ a0_18
    have a1_19 := s19' _ _ a1_18
    have a2_19 := s19' _ _ a2_18
    have a3_19 := s19' _ _ a3_18
    generalize upd H18 t4 (.tup [V.str "row", V.int 1, V.int 5]) = H19 at s19' s19 hL19 a0_19 a1_19 a2_19 a3_19 a4_19
    refine ⟨by show 3 ≤ sizeLine; decide, fun t5 ht5 => ?_⟩
    have s20' := same_new (o := .tup [V.str "row", V.int 1, V.int 1]) ht5
    have s20 := s19.trans s20'
    have hL20 := s20' _ _ hL19
    have a5_20 : (upd H19 t5 (.tup [V.str "row", V.int 1, V.int 1])) t5 = some (.tup [V.str "row", V.int 1, V.int 1]) := upd_same
    have a0_20 := s20' _ _ a0_19
    have a1_20 := s20' _ _ a1_19
    have a2_20 := s20' _ _ a2_19
    have a3_20 := s20' _ _ a3_19
    have a4_20 := s20' _ _ a4_19
    generalize upd H19 t5 (.tup [V.str "row", V.int 1, V.int 1]) = H20 at s20' s20 hL20 a0_20 a1_20 a2_20 a3_20 a4_20 a5_20
    refine ⟨by show 6 ≤ sizeLine; decide, fun U hU => ?_⟩
    have s21' := same_new (o := .lst [V.ref t0, V.ref t1, V.ref t2, V.ref t3, V.ref t4, V.ref t5]) hU
    have s21 := s20.trans s21'
    have hL21 := s21' _ _ hL20
    have hU21 : (upd H20 U (.lst [V.ref t0, V.ref t1, V.ref t2, V.ref t3, V.ref t4, V.ref t5])) U = some (.lst [V.ref t0, V.ref t1, V.ref t2, V.ref t3, V.ref t4, V.ref t5]) := upd_same
    have a0 := s21' _ _ a0_20
    have a1 := s21' _ _ a1_20
    have a2 := s21' _ _ a2_20
    have a3 := s21' _ _ a3_20
    have a4 := s21' _ _ a4_20
    have a5 := s21' _ _ a5_20
    generalize upd H20 U (.lst [V.ref t0, V.ref t1, V.ref t2, V.ref t3, V.ref t4, V.ref t5]) = H21 at s21 hL21 hU21 a0 a1 a2 a3 a4 a5
    refine ⟨_, rfl, L, rfl, ⟨_, SqL.of hL21⟩, fun D hD => ?_⟩
    refine lc_list (K := K) (a := L) (xs := some7.map V.str) (fun i H' => ∃ vs, H' D = some (.lst vs) ∧ DpAll K H' vs (due7.take i) ∧ Same H21 H') ⟨[], upd_same, .nil, same_new hD⟩ ?_ ?_ ?_
    · rintro i H' _ ⟨vs, _, _, s22⟩
      exact s22.seq (SqL.of hL21)
    · rintro i v H' hv ⟨vs, hDv, hvs, s22⟩
      obtain ⟨t, ht, rfl⟩ := map_get hv
      have hdue : due7[i]? = some (outC (some t)) := by
        rw [← all7]
        exact get_map ht
      have htl := some7_len t (get_mem ht)
      refine ⟨rfl, yes_turn ?_⟩
      refine ⟨_, rfl, .str t, some t, rfl, rfl, fun t' h => (by cases h; exact htl), fun v H3 s23 hv3 => ?_⟩
      have hD3 := s23 _ _ hDv
      have hvl : vs.length ≤ 7 := by
        rw [dpAll_len hvs, List.length_take]
        have : due7.length = 7 := rfl
        omega
      refine ⟨vs, hD3, lt_line (by omega), vs ++ [v], upd_same, ?_, fun b o hb => ?_⟩
      · rw [take_snoc hdue]
        have hn : noL (outC (some t)) = true := by
          have h := noL_due (i + 1)
          rw [take_snoc hdue] at h
          have : ∀ (ds : List PyData) (d : PyData), noLs (ds ++ [d]) = true → noL d = true := fun ds d => by
            induction ds with
            | nil => intro h; exact (Bool.and_eq_true_iff.mp (show (noL d && true) = true from h)).1
            | cons e r ih => intro h; exact ih (Bool.and_eq_true_iff.mp (show (noL e && noLs (r ++ [d])) = true from h)).2
          exact this _ _ h
        exact dpAll_app (dpAll_keep (keep_set hD3) _ _ (noL_due i) (dpAll_same s23 _ _ hvs)) (.cons (dp_keep (keep_set hD3) _ _ hn hv3) .nil)
      · rw [upd_ne (ne_of_none hb hD)]
        exact (s22.trans s23) b o hb
    rintro H22 ⟨vs, hDv, hvs, s22⟩
    rw [show due7.take (some7.map V.str).length = due7 from rfl] at hvs
    have hU22 := s22 _ _ hU21
    refine ⟨_, rfl, by show 3 ≤ sizeLine; decide, fun t6 ht6 => ?_⟩
    have s23' := same_new (o := .tup [V.str "row", V.int 2, V.int 0]) ht6
    have s23 := s22.trans s23'
    have a6 : (upd H22 t6 (.tup [V.str "row", V.int 2, V.int 0])) t6 = some (.tup [V.str "row", V.int 2, V.int 0]) := upd_same
    have hU23 := s23' _ _ hU22
    have hD23 := s23' _ _ hDv
    have hv23 := dpAll_same s23' _ _ hvs
    generalize upd H22 t6 (.tup [V.str "row", V.int 2, V.int 0]) = H23 at s23 a6 hU23 hD23 hv23
    refine ⟨by show 1 ≤ sizeLine; decide, fun B hB => ?_⟩
    have s24' := same_new (o := .lst [V.ref t6]) hB
    have s24 := s23.trans s24'
    have a6 := s24' _ _ a6
    have hU24 := s24' _ _ hU23
    have hD24 := s24' _ _ hD23
    have hv24 := dpAll_same s24' _ _ hv23
    have hB24 : (upd H23 B (.lst [V.ref t6])) B = some (.lst [V.ref t6]) := upd_same
    generalize upd H23 B (.lst [V.ref t6]) = H24 at s24 a6 hU24 hD24 hv24 hB24
    refine ⟨U, B, _, _, rfl, rfl, hU24, hB24, by show 6 + 1 ≤ sizeLine; decide, fun G hG => ?_⟩
    have s25' := same_new (o := .lst ([V.ref t0, V.ref t1, V.ref t2, V.ref t3, V.ref t4, V.ref t5] ++ [V.ref t6])) hG
    have s25 := s24.trans s25'
    have up := s25.trans (Same.refl _)
    have dx : Dp K _ (.ref D) (.list due7) := .lst (SqL.of (s25' _ _ hD24)) (dpAll_same s25' _ _ hv24)
    have dy : Dp K _ (.ref G) (.list due7) := .lst (SqL.of upd_same) (.cons (dp_row3 (s25 _ _ a0)) (.cons (dp_row3 (s25 _ _ a1)) (.cons (dp_row3 (s25 _ _ a2)) (.cons (.tup (.inl (.inl (s25 _ _ a3))) (.cons (.str _) (.cons (.str _) (.cons .non .nil)))) (.cons (dp_row3 (s25 _ _ a4)) (.cons (dp_row3 (s25 _ _ a5)) (.cons (dp_row3 (s25' _ _ a6)) .nil)))))))
    refine neD_f dx dy due_shaped (iteF ?_)
    have D25 := D13.same (s21.trans s25)
    have hS25 := (s21.trans s25).seq hS13
    generalize upd H24 G (.lst ([V.ref t0, V.ref t1, V.ref t2, V.ref t3, V.ref t4, V.ref t5] ++ [V.ref t6])) = H25 at D25 hS25
    -- the turns
    refine ⟨_, rfl, a, _, rfl, .inl hS25, ?_⟩
    refine ⟨_, 6, rfl, 2, _, rfl, rfl, _, rfl, ?_, ?_, ?_⟩
    · rw [List.length_map]; split <;> omega
    · rw [List.length_map]; split <;> omega
    have hn : (2 + if (6 : Int) < ((ns.map V.int).length : Int) then 6 else ((ns.map V.int).length : Int)).toNat ≤ 8 := by
      rw [List.length_map]
      split <;> omega
    refine for_range (lo := 0) (n := (2 + if (6 : Int) < ((ns.map V.int).length : Int) then 6 else ((ns.map V.int).length : Int)).toNat)
      (fun i σ H' => ∃ x5 x6 x7 l', σ = [some (.ref a), some (.ref m), y2, some (.ref L), some (.ref U), x5, x6, x7] ∧ Dr H' m c l' (890000 - 100 * i)) ⟨none, none, none, l, rfl, D25.less (by omega)⟩ ?_ ?_
    · rintro i σ H2 hi ⟨x5, x6, x7, l2, rfl, D2⟩
      have hi8 : i < 8 := by omega
      have D2 : Dr H2 m c l2 (890000 - 100 * (i + 1) + 30 + 30) := D2.less (by omega)
      refine ⟨_, rfl, m, c, l2, _, rfl, D2, fun u l3 H3 hu kp3 D3 => ?_⟩
      -- three times
      refine ⟨_, rfl, by decide, by decide, ?_⟩
      refine for_range (lo := 0) (n := 3) (fun j σ H' => ∃ t x7 l', σ = [some (.ref a), some (.ref m), y2, some (.ref L), some (.ref U), some (.str t), some (.int (0 + (i : Int))), x7] ∧ t.length ≤ bend j ∧ Dr H' m c l' (890000 - 100 * (i + 1) + 30 - 8 * j)) ⟨u, x7, l3, rfl, hu, D3⟩ ?_ ?_
      · rintro j σ H8 hj ⟨t, y7, l8, rfl, ht, D8⟩
        have D8 : Dr H8 m c l8 (890000 - 100 * (i + 1) + 30 - 8 * (j + 1) + 8) := D8.less (by omega)
        have hj2 : bend (j + 1) ≤ 68600 ∧ 3 * bend j + 3200 ≤ bend (j + 1) ∧ bend j ≤ 21800 := by
          have : j = 0 ∨ j = 1 ∨ j = 2 := by omega
          rcases this with rfl | rfl | rfl <;> decide
        have sho := sh_outC (t := t) (by omega)
        refine ⟨_, rfl, .str t, some t, rfl, rfl, fun t' ht' => by cases ht'; omega, fun v10 H10 s10 hv10 => ?_⟩
        refine ⟨_, _, rfl, hv10, sho.sh, sho.nd, Nat.le_trans sho.dp (by decide), sz_line (Nat.le_trans sho.le (by decide)), ?_⟩
        refine ⟨_, rfl, t, rfl, by omega, fun v11 H11 s11 hv11 => ?_⟩
        refine ⟨_, _, rfl, hv11, sho.sh, sho.nd, Nat.le_trans sho.dp (by decide), sz_line (Nat.le_trans sho.le (by decide)), ?_⟩
        refine ⟨rfl, _, rfl, iteNS rfl ?_⟩
        refine ⟨_, rfl, _, rfl, m, c, l8, _, t, rfl, by omega, D8.same (s10.trans s11), fun u' l12 H12 hu' kp12 D12 => ?_⟩
        exact ⟨u', _, l12, rfl, by omega, D12⟩
      · rintro σ H8 ⟨t, y7, l8, rfl, ht, D8⟩
        have ht : t.length ≤ 68600 := ht
        have sho := sh_outC (t := t) (by omega)
        refine ⟨_, rfl, .str t, some t, rfl, rfl, fun t' ht' => by cases ht'; omega, fun v10 H10 s10 hv10 => ?_⟩
        refine ⟨_, _, rfl, hv10, sho.sh, sho.nd, Nat.le_trans sho.dp (by decide), sz_line (Nat.le_trans sho.le (by decide)), ?_⟩
        refine ⟨_, rfl, t, rfl, by omega, fun v11 H11 s11 hv11 => ?_⟩
        refine ⟨_, _, rfl, hv11, sho.sh, sho.nd, Nat.le_trans sho.dp (by decide), sz_line (Nat.le_trans sho.le (by decide)), ?_⟩
        refine ⟨rfl, _, rfl, iteNS rfl ?_⟩
        exact ⟨_, _, _, l8, rfl, (D8.same (s10.trans s11)).less (by omega)⟩
    · rintro σ H2 ⟨x5, x6, x7, l2, rfl, D2⟩
      exact q H2
end
end My

namespace My
open PySem PySem.Spec PyProof.Rows L2
/-- whether a clause for the class C takes an error of the class S -/
theorem exm_of {K : PySem.W.Frag} {S C : Addr} {b : Bool} (base : PySem.W.subIn K (.ref C) (.type "BaseException") = some true) (isCls : PySem.W.isClsIn K C = true)
    (ty : PySem.W.typeIn K (.ref C) = some (.type "type")) (sub : PySem.W.subIn K (.ref S) (.ref C) = some b) : PySem.W.exmOne K (.ref S) (.ref C) = some b := by
  unfold PySem.W.exmOne
  rw [if_pos (by rw [base]; rfl)]
  show (if ((PySem.W.clsIn K C).isSome && PySem.W.typeIn K (.ref C) == some (.type "type")) = true then PySem.W.subIn K (.ref S) (.ref C) else none) = some b
  have h : (PySem.W.clsIn K C).isSome = true := isCls
  rw [if_pos (by rw [h, ty]; rfl)]
  exact sub
set_option maxHeartbeats 0 in
theorem all_mk {l : PySem.W.OpenLaw} {w : World} {K : PySem.W.Frag} {h : Heap} {mg : Str → Option Value} {fa : Addr} (X : K.In h) (G : h.Ns mainGlobals mg) (hfa : mg "law" = some (.ref fa))
    {oc0 kV0 dc0 pm0 cd0 ct0 : Value} {od0 an0 : Option Addr} {sl0 : Array (Option Value)} {f0 : Addr}
    {oc1 kV1 dc1 pm1 cd1 ct1 : Value} {od1 an1 : Option Addr} {sl1 : Array (Option Value)} {f1 : Addr}
    {oc2 kV2 dc2 pm2 cd2 ct2 : Value} {od2 an2 : Option Addr} {sl2 : Array (Option Value)} {f2 : Addr}
    {oc3 kV3 dc3 pm3 cd3 ct3 : Value} {od3 an3 : Option Addr} {sl3 : Array (Option Value)} {f3 : Addr}
    {oc4 kV4 dc4 pm4 cd4 ct4 : Value} {od4 an4 : Option Addr} {sl4 : Array (Option Value)} {f4 : Addr}
    {oc5 kV5 dc5 pm5 cd5 ct5 : Value} {od5 an5 : Option Addr} {sl5 : Array (Option Value)} {f5 : Addr}
    {oc6 kV6 dc6 pm6 cd6 ct6 : Value} {od6 an6 : Option Addr} {sl6 : Array (Option Value)} {f6 : Addr}
    {oc7 kV7 dc7 pm7 cd7 ct7 : Value} {od7 an7 : Option Addr} {sl7 : Array (Option Value)} {f7 : Addr}
    {oc8 kV8 dc8 pm8 cd8 ct8 : Value} {od8 an8 : Option Addr} {sl8 : Array (Option Value)} {f8 : Addr}
    {oc9 kV9 dc9 pm9 cd9 ct9 : Value} {od9 an9 : Option Addr} {sl9 : Array (Option Value)} {f9 : Addr}
    {oc10 kV10 dc10 pm10 cd10 ct10 : Value} {od10 an10 : Option Addr} {sl10 : Array (Option Value)} {f10 : Addr}
    {oc11 kV11 dc11 pm11 cd11 ct11 : Value} {od11 an11 : Option Addr} {sl11 : Array (Option Value)} {f11 : Addr}
    {oc12 kV12 dc12 pm12 cd12 ct12 : Value} {od12 an12 : Option Addr} {sl12 : Array (Option Value)} {f12 : Addr}
    {oc13 kV13 dc13 pm13 cd13 ct13 : Value} {od13 an13 : Option Addr} {sl13 : Array (Option Value)} {f13 : Addr}
    {oc14 kV14 dc14 pm14 cd14 ct14 : Value} {od14 an14 : Option Addr} {sl14 : Array (Option Value)} {f14 : Addr}
    {oc15 kV15 dc15 pm15 cd15 ct15 : Value} {od15 an15 : Option Addr} {sl15 : Array (Option Value)} {f15 : Addr}
    {oc16 kV16 dc16 pm16 cd16 ct16 : Value} {od16 an16 : Option Addr} {sl16 : Array (Option Value)} {f16 : Addr}
    {oc17 kV17 dc17 pm17 cd17 ct17 : Value} {od17 an17 : Option Addr} {sl17 : Array (Option Value)} {f17 : Addr}
    {oc18 kV18 dc18 pm18 cd18 ct18 : Value} {od18 an18 : Option Addr} {sl18 : Array (Option Value)} {f18 : Addr}
    {oc19 kV19 dc19 pm19 cd19 ct19 : Value} {od19 an19 : Option Addr} {sl19 : Array (Option Value)} {f19 : Addr}
    {oc20 kV20 dc20 pm20 cd20 ct20 : Value} {od20 an20 : Option Addr} {sl20 : Array (Option Value)} {f20 : Addr}
    {oc21 kV21 dc21 pm21 cd21 ct21 : Value} {od21 an21 : Option Addr} {sl21 : Array (Option Value)} {f21 : Addr}
    {oc22 kV22 dc22 pm22 cd22 ct22 : Value} {od22 an22 : Option Addr} {sl22 : Array (Option Value)} {f22 : Addr}
    {oc23 kV23 dc23 pm23 cd23 ct23 : Value} {od23 an23 : Option Addr} {sl23 : Array (Option Value)} {f23 : Addr}
    {oc24 kV24 dc24 pm24 cd24 ct24 : Value} {od24 an24 : Option Addr} {sl24 : Array (Option Value)} {f24 : Addr}
    {oc25 kV25 dc25 pm25 cd25 ct25 : Value} {od25 an25 : Option Addr} {sl25 : Array (Option Value)} {f25 : Addr}
    {oc26 kV26 dc26 pm26 cd26 ct26 : Value} {od26 an26 : Option Addr} {sl26 : Array (Option Value)} {f26 : Addr}
    {oc27 kV27 dc27 pm27 cd27 ct27 : Value} {od27 an27 : Option Addr} {sl27 : Array (Option Value)} {f27 : Addr}
    {oc28 kV28 dc28 pm28 cd28 ct28 : Value} {od28 an28 : Option Addr} {sl28 : Array (Option Value)} {f28 : Addr}
    {C0 g0 N0 : Addr} {nmC0 qC0 : Str} {bsC0 subC0 : List Value} {snC0 : List Str} {abC0 : Bool} {colC0 : Option Bool} {ddC0 : Option Addr} {m0C0 m1C0 m2C0 m3C0 m5C0 : Option Value} {ocC0 kVC0 dcC0 pmC0 cdC0 ctC0 : Value} {odC0 anC0 : Option Addr} {slC0 : Array (Option Value)}
    {C1 g1 N1 : Addr} {nmC1 qC1 : Str} {bsC1 subC1 : List Value} {snC1 : List Str} {abC1 : Bool} {colC1 : Option Bool} {ddC1 : Option Addr} {m0C1 m1C1 m2C1 m3C1 m5C1 : Option Value} {ocC1 kVC1 dcC1 pmC1 cdC1 ctC1 : Value} {odC1 anC1 : Option Addr} {slC1 : Array (Option Value)}
    {tDG : Tok}
    (a0 : PySem.W.nsIn K mainGlobals "is_integer" = some (some (.ref f0)))
    (l0 : K.lookup f0 = some ⟨oc0, od0, .func (PySem.W.fnOf "is_integer" "is_integer" (defArgs s_is_integer) (defBody s_is_integer) (defScope s_is_integer) .none kV0 dc0 pm0 an0 cd0 ct0), sl0⟩)
    (c0 : PySem.W.codeIn K cd0 "is_integer" = true)
    (k0 : PySem.W.keepIn K (.ref f0) = true)
    (a1 : PySem.W.nsIn K mainGlobals "is_between" = some (some (.ref f1)))
    (l1 : K.lookup f1 = some ⟨oc1, od1, .func (PySem.W.fnOf "is_between" "is_between" (defArgs s_is_between) (defBody s_is_between) (defScope s_is_between) .none kV1 dc1 pm1 an1 cd1 ct1), sl1⟩)
    (c1 : PySem.W.codeIn K cd1 "is_between" = true)
    (k1 : PySem.W.keepIn K (.ref f1) = true)
    (a2 : PySem.W.nsIn K mainGlobals "is_pair" = some (some (.ref f2)))
    (l2 : K.lookup f2 = some ⟨oc2, od2, .func (PySem.W.fnOf "is_pair" "is_pair" (defArgs s_is_pair) (defBody s_is_pair) (defScope s_is_pair) .none kV2 dc2 pm2 an2 cd2 ct2), sl2⟩)
    (c2 : PySem.W.codeIn K cd2 "is_pair" = true)
    (k2 : PySem.W.keepIn K (.ref f2) = true)
    (a3 : PySem.W.nsIn K mainGlobals "need_coder" = some (some (.ref f3)))
    (l3 : K.lookup f3 = some ⟨oc3, od3, .func (PySem.W.fnOf "need_coder" "need_coder" (defArgs s_need_coder) (defBody s_need_coder) (defScope s_need_coder) .none kV3 dc3 pm3 an3 cd3 ct3), sl3⟩)
    (c3 : PySem.W.codeIn K cd3 "need_coder" = true)
    (k3 : PySem.W.keepIn K (.ref f3) = true)
    (a4 : PySem.W.nsIn K mainGlobals "_first_fault" = some (some (.ref f4)))
    (l4 : K.lookup f4 = some ⟨oc4, od4, .func (PySem.W.fnOf "_first_fault" "_first_fault" (defArgs s_first_fault) (defBody s_first_fault) (defScope s_first_fault) .none kV4 dc4 pm4 an4 cd4 ct4), sl4⟩)
    (c4 : PySem.W.codeIn K cd4 "_first_fault" = true)
    (k4 : PySem.W.keepIn K (.ref f4) = true)
    (a5 : PySem.W.nsIn K mainGlobals "_fault_of_steps" = some (some (.ref f5)))
    (l5 : K.lookup f5 = some ⟨oc5, od5, .func (PySem.W.fnOf "_fault_of_steps" "_fault_of_steps" (defArgs s_fault_of_steps) (defBody s_fault_of_steps) (defScope s_fault_of_steps) .none kV5 dc5 pm5 an5 cd5 ct5), sl5⟩)
    (c5 : PySem.W.codeIn K cd5 "_fault_of_steps" = true)
    (k5 : PySem.W.keepIn K (.ref f5) = true)
    (a6 : PySem.W.nsIn K mainGlobals "_fault_of_moves" = some (some (.ref f6)))
    (l6 : K.lookup f6 = some ⟨oc6, od6, .func (PySem.W.fnOf "_fault_of_moves" "_fault_of_moves" (defArgs s_fault_of_moves) (defBody s_fault_of_moves) (defScope s_fault_of_moves) .none kV6 dc6 pm6 an6 cd6 ct6), sl6⟩)
    (c6 : PySem.W.codeIn K cd6 "_fault_of_moves" = true)
    (k6 : PySem.W.keepIn K (.ref f6) = true)
    (a7 : PySem.W.nsIn K mainGlobals "_is_tuple_of" = some (some (.ref f7)))
    (l7 : K.lookup f7 = some ⟨oc7, od7, .func (PySem.W.fnOf "_is_tuple_of" "_is_tuple_of" (defArgs s_is_tuple_of) (defBody s_is_tuple_of) (defScope s_is_tuple_of) .none kV7 dc7 pm7 an7 cd7 ct7), sl7⟩)
    (c7 : PySem.W.codeIn K cd7 "_is_tuple_of" = true)
    (k7 : PySem.W.keepIn K (.ref f7) = true)
    (a8 : PySem.W.nsIn K mainGlobals "_is_move" = some (some (.ref f8)))
    (l8 : K.lookup f8 = some ⟨oc8, od8, .func (PySem.W.fnOf "_is_move" "_is_move" (defArgs s_is_move) (defBody s_is_move) (defScope s_is_move) .none kV8 dc8 pm8 an8 cd8 ct8), sl8⟩)
    (c8 : PySem.W.codeIn K cd8 "_is_move" = true)
    (k8 : PySem.W.keepIn K (.ref f8) = true)
    (a9 : PySem.W.nsIn K mainGlobals "_is_fade" = some (some (.ref f9)))
    (l9 : K.lookup f9 = some ⟨oc9, od9, .func (PySem.W.fnOf "_is_fade" "_is_fade" (defArgs s_is_fade) (defBody s_is_fade) (defScope s_is_fade) .none kV9 dc9 pm9 an9 cd9 ct9), sl9⟩)
    (c9 : PySem.W.codeIn K cd9 "_is_fade" = true)
    (k9 : PySem.W.keepIn K (.ref f9) = true)
    (a10 : PySem.W.nsIn K mainGlobals "read_coder" = some (some (.ref f10)))
    (l10 : K.lookup f10 = some ⟨oc10, od10, .func (PySem.W.fnOf "read_coder" "read_coder" (defArgs s_read_coder) (defBody s_read_coder) (defScope s_read_coder) .none kV10 dc10 pm10 an10 cd10 ct10), sl10⟩)
    (c10 : PySem.W.codeIn K cd10 "read_coder" = true)
    (k10 : PySem.W.keepIn K (.ref f10) = true)
    (a11 : PySem.W.nsIn K mainGlobals "_need_text" = some (some (.ref f11)))
    (l11 : K.lookup f11 = some ⟨oc11, od11, .func (PySem.W.fnOf "_need_text" "_need_text" (defArgs s_need_text) (defBody s_need_text) (defScope s_need_text) .none kV11 dc11 pm11 an11 cd11 ct11), sl11⟩)
    (c11 : PySem.W.codeIn K cd11 "_need_text" = true)
    (k11 : PySem.W.keepIn K (.ref f11) = true)
    (a12 : PySem.W.nsIn K mainGlobals "_need_no_empty_word" = some (some (.ref f12)))
    (l12 : K.lookup f12 = some ⟨oc12, od12, .func (PySem.W.fnOf "_need_no_empty_word" "_need_no_empty_word" (defArgs s_need_no_empty_word) (defBody s_need_no_empty_word) (defScope s_need_no_empty_word) .none kV12 dc12 pm12 an12 cd12 ct12), sl12⟩)
    (c12 : PySem.W.codeIn K cd12 "_need_no_empty_word" = true)
    (k12 : PySem.W.keepIn K (.ref f12) = true)
    (a13 : PySem.W.nsIn K mainGlobals "_need_coder_row" = some (some (.ref f13)))
    (l13 : K.lookup f13 = some ⟨oc13, od13, .func (PySem.W.fnOf "_need_coder_row" "_need_coder_row" (defArgs s_need_coder_row) (defBody s_need_coder_row) (defScope s_need_coder_row) .none kV13 dc13 pm13 an13 cd13 ct13), sl13⟩)
    (c13 : PySem.W.codeIn K cd13 "_need_coder_row" = true)
    (k13 : PySem.W.keepIn K (.ref f13) = true)
    (a14 : PySem.W.nsIn K mainGlobals "_need_row_form" = some (some (.ref f14)))
    (l14 : K.lookup f14 = some ⟨oc14, od14, .func (PySem.W.fnOf "_need_row_form" "_need_row_form" (defArgs s_need_row_form) (defBody s_need_row_form) (defScope s_need_row_form) .none kV14 dc14 pm14 an14 cd14 ct14), sl14⟩)
    (c14 : PySem.W.codeIn K cd14 "_need_row_form" = true)
    (k14 : PySem.W.keepIn K (.ref f14) = true)
    (a15 : PySem.W.nsIn K mainGlobals "_is_number" = some (some (.ref f15)))
    (l15 : K.lookup f15 = some ⟨oc15, od15, .func (PySem.W.fnOf "_is_number" "_is_number" (defArgs s_is_number) (defBody s_is_number) (defScope s_is_number) .none kV15 dc15 pm15 an15 cd15 ct15), sl15⟩)
    (c15 : PySem.W.codeIn K cd15 "_is_number" = true)
    (k15 : PySem.W.keepIn K (.ref f15) = true)
    (a16 : PySem.W.nsIn K mainGlobals "_numbers_of" = some (some (.ref f16)))
    (l16 : K.lookup f16 = some ⟨oc16, od16, .func (PySem.W.fnOf "_numbers_of" "_numbers_of" (defArgs s_numbers_of) (defBody s_numbers_of) (defScope s_numbers_of) .none kV16 dc16 pm16 an16 cd16 ct16), sl16⟩)
    (c16 : PySem.W.codeIn K cd16 "_numbers_of" = true)
    (k16 : PySem.W.keepIn K (.ref f16) = true)
    (a17 : PySem.W.nsIn K mainGlobals "_law_begun" = some (some (.ref f17)))
    (l17 : K.lookup f17 = some ⟨oc17, od17, .func (PySem.W.fnOf "_law_begun" "_law_begun" (defArgs s_law_begun) (defBody s_law_begun) (defScope s_law_begun) .none kV17 dc17 pm17 an17 cd17 ct17), sl17⟩)
    (c17 : PySem.W.codeIn K cd17 "_law_begun" = true)
    (k17 : PySem.W.keepIn K (.ref f17) = true)
    (a18 : PySem.W.nsIn K mainGlobals "_law_next" = some (some (.ref f18)))
    (l18 : K.lookup f18 = some ⟨oc18, od18, .func (PySem.W.fnOf "_law_next" "_law_next" (defArgs s_law_next) (defBody s_law_next) (defScope s_law_next) .none kV18 dc18 pm18 an18 cd18 ct18), sl18⟩)
    (c18 : PySem.W.codeIn K cd18 "_law_next" = true)
    (k18 : PySem.W.keepIn K (.ref f18) = true)
    (a19 : PySem.W.nsIn K mainGlobals "_law_outcome" = some (some (.ref f19)))
    (l19 : K.lookup f19 = some ⟨oc19, od19, .func (PySem.W.fnOf "_law_outcome" "_law_outcome" (defArgs s_law_outcome) (defBody s_law_outcome) (defScope s_law_outcome) .none kV19 dc19 pm19 an19 cd19 ct19), sl19⟩)
    (c19 : PySem.W.codeIn K cd19 "_law_outcome" = true)
    (k19 : PySem.W.keepIn K (.ref f19) = true)
    (a20 : PySem.W.nsIn K mainGlobals "_law_number" = some (some (.ref f20)))
    (l20 : K.lookup f20 = some ⟨oc20, od20, .func (PySem.W.fnOf "_law_number" "_law_number" (defArgs s_law_number) (defBody s_law_number) (defScope s_law_number) .none kV20 dc20 pm20 an20 cd20 ct20), sl20⟩)
    (c20 : PySem.W.codeIn K cd20 "_law_number" = true)
    (k20 : PySem.W.keepIn K (.ref f20) = true)
    (a21 : PySem.W.nsIn K mainGlobals "_law_row_fault" = some (some (.ref f21)))
    (l21 : K.lookup f21 = some ⟨oc21, od21, .func (PySem.W.fnOf "_law_row_fault" "_law_row_fault" (defArgs s_law_row_fault) (defBody s_law_row_fault) (defScope s_law_row_fault) .none kV21 dc21 pm21 an21 cd21 ct21), sl21⟩)
    (c21 : PySem.W.codeIn K cd21 "_law_row_fault" = true)
    (k21 : PySem.W.keepIn K (.ref f21) = true)
    (a22 : PySem.W.nsIn K mainGlobals "_law_is_pair" = some (some (.ref f22)))
    (l22 : K.lookup f22 = some ⟨oc22, od22, .func (PySem.W.fnOf "_law_is_pair" "_law_is_pair" (defArgs s_law_is_pair) (defBody s_law_is_pair) (defScope s_law_is_pair) .none kV22 dc22 pm22 an22 cd22 ct22), sl22⟩)
    (c22 : PySem.W.codeIn K cd22 "_law_is_pair" = true)
    (k22 : PySem.W.keepIn K (.ref f22) = true)
    (a23 : PySem.W.nsIn K mainGlobals "_law_fault" = some (some (.ref f23)))
    (l23 : K.lookup f23 = some ⟨oc23, od23, .func (PySem.W.fnOf "_law_fault" "_law_fault" (defArgs s_law_fault) (defBody s_law_fault) (defScope s_law_fault) .none kV23 dc23 pm23 an23 cd23 ct23), sl23⟩)
    (c23 : PySem.W.codeIn K cd23 "_law_fault" = true)
    (k23 : PySem.W.keepIn K (.ref f23) = true)
    (a24 : PySem.W.nsIn K mainGlobals "_law_due" = some (some (.ref f24)))
    (l24 : K.lookup f24 = some ⟨oc24, od24, .func (PySem.W.fnOf "_law_due" "_law_due" (defArgs s_law_due) (defBody s_law_due) (defScope s_law_due) .none kV24 dc24 pm24 an24 cd24 ct24), sl24⟩)
    (c24 : PySem.W.codeIn K cd24 "_law_due" = true)
    (k24 : PySem.W.keepIn K (.ref f24) = true)
    (a25 : PySem.W.nsIn K mainGlobals "_law_text" = some (some (.ref f25)))
    (l25 : K.lookup f25 = some ⟨oc25, od25, .func (PySem.W.fnOf "_law_text" "_law_text" (defArgs s_law_text) (defBody s_law_text) (defScope s_law_text) .none kV25 dc25 pm25 an25 cd25 ct25), sl25⟩)
    (c25 : PySem.W.codeIn K cd25 "_law_text" = true)
    (k25 : PySem.W.keepIn K (.ref f25) = true)
    (a26 : PySem.W.nsIn K mainGlobals "_law_bent_row" = some (some (.ref f26)))
    (l26 : K.lookup f26 = some ⟨oc26, od26, .func (PySem.W.fnOf "_law_bent_row" "_law_bent_row" (defArgs s_law_bent_row) (defBody s_law_bent_row) (defScope s_law_bent_row) .none kV26 dc26 pm26 an26 cd26 ct26), sl26⟩)
    (c26 : PySem.W.codeIn K cd26 "_law_bent_row" = true)
    (k26 : PySem.W.keepIn K (.ref f26) = true)
    (a27 : PySem.W.nsIn K mainGlobals "_law_bent" = some (some (.ref f27)))
    (l27 : K.lookup f27 = some ⟨oc27, od27, .func (PySem.W.fnOf "_law_bent" "_law_bent" (defArgs s_law_bent) (defBody s_law_bent) (defScope s_law_bent) .none kV27 dc27 pm27 an27 cd27 ct27), sl27⟩)
    (c27 : PySem.W.codeIn K cd27 "_law_bent" = true)
    (k27 : PySem.W.keepIn K (.ref f27) = true)
    (a28 : PySem.W.nsIn K mainGlobals "law" = some (some (.ref f28)))
    (l28 : K.lookup f28 = some ⟨oc28, od28, .func (PySem.W.fnOf "law" "law" (defArgs s_law) (defBody s_law) (defScope s_law) .none kV28 dc28 pm28 an28 cd28 ct28), sl28⟩)
    (c28 : PySem.W.codeIn K cd28 "law" = true)
    (k28 : PySem.W.keepIn K (.ref f28) = true)
    (z_all : PySem.W.nsIn K mainGlobals "all" = some none)
    (z_bool : PySem.W.nsIn K mainGlobals "bool" = some none)
    (z_enumerate : PySem.W.nsIn K mainGlobals "enumerate" = some none)
    (z_int : PySem.W.nsIn K mainGlobals "int" = some none)
    (z_isinstance : PySem.W.nsIn K mainGlobals "isinstance" = some none)
    (z_len : PySem.W.nsIn K mainGlobals "len" = some none)
    (z_list : PySem.W.nsIn K mainGlobals "list" = some none)
    (z_min : PySem.W.nsIn K mainGlobals "min" = some none)
    (z_range : PySem.W.nsIn K mainGlobals "range" = some none)
    (z_repr : PySem.W.nsIn K mainGlobals "repr" = some none)
    (z_str : PySem.W.nsIn K mainGlobals "str" = some none)
    (z_tuple : PySem.W.nsIn K mainGlobals "tuple" = some none)
    (aC0 : PySem.W.nsIn K mainGlobals "BadCoder" = some (some (.ref C0)))
    (xC0 : K.lookup C0 = some (excClassObj nmC0 qC0 C0 N0 bsC0 [.type "ValueError", .type "Exception", .type "BaseException", .type "object"] true snC0 subC0 abC0 colC0 ddC0 m0C0 m1C0 m2C0 m3C0 m5C0 "ValueError.__new__"))
    (saC0 : PySem.W.findIn K (.ref C0) "__setattr__" = some (some (.builtin "object.__setattr__")))
    (iC0 : PySem.W.findIn K (.ref C0) "__init__" = some (some (.ref g0)))
    (tI0 : PySem.W.typeIn K (.ref g0) = some (.type "function"))
    (lC0 : K.lookup g0 = some ⟨ocC0, odC0, .func (PySem.W.fnOf "__init__" "BadCoder.__init__" (defArgs si_BadCoder) (defBody si_BadCoder) (defScope si_BadCoder) .none kVC0 dcC0 pmC0 anC0 cdC0 ctC0), slC0⟩)
    (cC0 : PySem.W.codeIn K cdC0 "BadCoder.__init__" = true)
    (kI0 : PySem.W.keepIn K (.ref g0) = true)
    (kC0 : PySem.W.keepIn K (.ref C0) = true)
    (eC0 : PySem.W.subIn K (.ref C0) (.type "BaseException") = some true)
    (tC0 : PySem.W.typeIn K (.ref C0) = some (.type "type"))
    (isC0 : PySem.W.isClsIn K C0 = true)
    (sC0 : PySem.W.subIn K (.ref C0) (.ref C0) = some true)
    (gaC0 : PySem.W.findIn K (.ref C0) "__getattribute__" = some (some (.builtin "BaseException.__getattribute__")))
    (ggC0 : PySem.W.findIn K (.ref C0) "__getattr__" = some none)
    (hdC0 : PySem.W.hasDictIn K C0 = true)
    (nC0part : PySem.W.findIn K (.ref C0) "part" = some none)
    (nC0number : PySem.W.findIn K (.ref C0) "number" = some none)
    (aC1 : PySem.W.nsIn K mainGlobals "BadRow" = some (some (.ref C1)))
    (xC1 : K.lookup C1 = some (excClassObj nmC1 qC1 C1 N1 bsC1 [.type "ValueError", .type "Exception", .type "BaseException", .type "object"] true snC1 subC1 abC1 colC1 ddC1 m0C1 m1C1 m2C1 m3C1 m5C1 "ValueError.__new__"))
    (saC1 : PySem.W.findIn K (.ref C1) "__setattr__" = some (some (.builtin "object.__setattr__")))
    (iC1 : PySem.W.findIn K (.ref C1) "__init__" = some (some (.ref g1)))
    (tI1 : PySem.W.typeIn K (.ref g1) = some (.type "function"))
    (lC1 : K.lookup g1 = some ⟨ocC1, odC1, .func (PySem.W.fnOf "__init__" "BadRow.__init__" (defArgs si_BadRow) (defBody si_BadRow) (defScope si_BadRow) .none kVC1 dcC1 pmC1 anC1 cdC1 ctC1), slC1⟩)
    (cC1 : PySem.W.codeIn K cdC1 "BadRow.__init__" = true)
    (kI1 : PySem.W.keepIn K (.ref g1) = true)
    (kC1 : PySem.W.keepIn K (.ref C1) = true)
    (eC1 : PySem.W.subIn K (.ref C1) (.type "BaseException") = some true)
    (tC1 : PySem.W.typeIn K (.ref C1) = some (.type "type"))
    (isC1 : PySem.W.isClsIn K C1 = true)
    (sC1 : PySem.W.subIn K (.ref C1) (.ref C1) = some true)
    (gaC1 : PySem.W.findIn K (.ref C1) "__getattribute__" = some (some (.builtin "BaseException.__getattribute__")))
    (ggC1 : PySem.W.findIn K (.ref C1) "__getattr__" = some none)
    (hdC1 : PySem.W.hasDictIn K C1 = true)
    (nC1row : PySem.W.findIn K (.ref C1) "row" = some none)
    (nC1word : PySem.W.findIn K (.ref C1) "word" = some none)
    (sC0x1 : PySem.W.subIn K (.ref C0) (.ref C1) = some false)
    (sC1x0 : PySem.W.subIn K (.ref C1) (.ref C0) = some false)
    (vV : PySem.W.findCls K (.type "ValueError") (.type "type") "__init__" = some (.val (.builtin "ValueError.__init__")))
    (zV : PySem.W.nsIn K mainGlobals "ValueError" = some none)
    (dg : PySem.W.nsIn K mainGlobals "DIGITS" = some (some (.str "0123456789" tDG))) :
    ∃ fd : FuncData, (∀ (s : Shared) (v : Value), BindsTo s fd ⟨[v], []⟩ [("script", v)]) ∧ ∀ base : Heap, K.In base → base.Ns mainGlobals mg → FnG l.prog w K mg base 10 fa fd ["script"] (sp_law (K := K)) := by
  have e := hfa.symm.trans (PySem.W.mg_of X G a28)
  cases e
  have F0 := fun_mk (st := s_is_integer) l0 c0 k0
  have B0 := F0.binds (ps := ["thing"]) fun _ _ _ _ _ _ us hl => match us, hl with | [_], _ => rfl
  have F1 := fun_mk (st := s_is_between) l1 c1 k1
  have B1 := F1.binds (ps := ["thing", "least", "most"]) fun _ _ _ _ _ _ us hl => match us, hl with | [_, _, _], _ => rfl
  have F2 := fun_mk (st := s_is_pair) l2 c2 k2
  have B2 := F2.binds (ps := ["thing"]) fun _ _ _ _ _ _ us hl => match us, hl with | [_], _ => rfl
  have F3 := fun_mk (st := s_need_coder) l3 c3 k3
  have B3 := F3.binds (ps := ["thing"]) fun _ _ _ _ _ _ us hl => match us, hl with | [_], _ => rfl
  have F4 := fun_mk (st := s_first_fault) l4 c4 k4
  have B4 := F4.binds (ps := ["thing"]) fun _ _ _ _ _ _ us hl => match us, hl with | [_], _ => rfl
  have F5 := fun_mk (st := s_fault_of_steps) l5 c5 k5
  have B5 := F5.binds (ps := ["steps"]) fun _ _ _ _ _ _ us hl => match us, hl with | [_], _ => rfl
  have F6 := fun_mk (st := s_fault_of_moves) l6 c6 k6
  have B6 := F6.binds (ps := ["moves"]) fun _ _ _ _ _ _ us hl => match us, hl with | [_], _ => rfl
  have F7 := fun_mk (st := s_is_tuple_of) l7 c7 k7
  have B7 := F7.binds (ps := ["thing", "least", "most"]) fun _ _ _ _ _ _ us hl => match us, hl with | [_, _, _], _ => rfl
  have F8 := fun_mk (st := s_is_move) l8 c8 k8
  have B8 := F8.binds (ps := ["thing"]) fun _ _ _ _ _ _ us hl => match us, hl with | [_], _ => rfl
  have F9 := fun_mk (st := s_is_fade) l9 c9 k9
  have B9 := F9.binds (ps := ["thing"]) fun _ _ _ _ _ _ us hl => match us, hl with | [_], _ => rfl
  have F10 := fun_mk (st := s_read_coder) l10 c10 k10
  have B10 := F10.binds (ps := ["text"]) fun _ _ _ _ _ _ us hl => match us, hl with | [_], _ => rfl
  have F11 := fun_mk (st := s_need_text) l11 c11 k11
  have B11 := F11.binds (ps := ["thing"]) fun _ _ _ _ _ _ us hl => match us, hl with | [_], _ => rfl
  have F12 := fun_mk (st := s_need_no_empty_word) l12 c12 k12
  have B12 := F12.binds (ps := ["row", "words"]) fun _ _ _ _ _ _ us hl => match us, hl with | [_, _], _ => rfl
  have F13 := fun_mk (st := s_need_coder_row) l13 c13 k13
  have B13 := F13.binds (ps := ["index", "words"]) fun _ _ _ _ _ _ us hl => match us, hl with | [_, _], _ => rfl
  have F14 := fun_mk (st := s_need_row_form) l14 c14 k14
  have B14 := F14.binds (ps := ["row", "words", "name", "least", "most"]) fun _ _ _ _ _ _ us hl => match us, hl with | [_, _, _, _, _], _ => rfl
  have F15 := fun_mk (st := s_is_number) l15 c15 k15
  have B15 := F15.binds (ps := ["word"]) fun _ _ _ _ _ _ us hl => match us, hl with | [_], _ => rfl
  have F16 := fun_mk (st := s_numbers_of) l16 c16 k16
  have B16 := F16.binds (ps := ["words"]) fun _ _ _ _ _ _ us hl => match us, hl with | [_], _ => rfl
  have F17 := fun_mk (st := s_law_begun) l17 c17 k17
  have B17 := F17.binds (ps := ["script"]) fun _ _ _ _ _ _ us hl => match us, hl with | [_], _ => rfl
  have F18 := fun_mk (st := s_law_next) l18 c18 k18
  have B18 := F18.binds (ps := ["m", "many"]) fun _ _ _ _ _ _ us hl => match us, hl with | [_, _], _ => rfl
  have F19 := fun_mk (st := s_law_outcome) l19 c19 k19
  have B19 := F19.binds (ps := ["text"]) fun _ _ _ _ _ _ us hl => match us, hl with | [_], _ => rfl
  have F20 := fun_mk (st := s_law_number) l20 c20 k20
  have B20 := F20.binds (ps := ["word"]) fun _ _ _ _ _ _ us hl => match us, hl with | [_], _ => rfl
  have F21 := fun_mk (st := s_law_row_fault) l21 c21 k21
  have B21 := F21.binds (ps := ["words", "name", "least", "most"]) fun _ _ _ _ _ _ us hl => match us, hl with | [_, _, _, _], _ => rfl
  have F22 := fun_mk (st := s_law_is_pair) l22 c22 k22
  have B22 := F22.binds (ps := ["move"]) fun _ _ _ _ _ _ us hl => match us, hl with | [_], _ => rfl
  have F23 := fun_mk (st := s_law_fault) l23 c23 k23
  have B23 := F23.binds (ps := ["low", "high", "steps", "moves", "fade"]) fun _ _ _ _ _ _ us hl => match us, hl with | [_, _, _, _, _], _ => rfl
  have F24 := fun_mk (st := s_law_due) l24 c24 k24
  have B24 := F24.binds (ps := ["text"]) fun _ _ _ _ _ _ us hl => match us, hl with | [_], _ => rfl
  have F25 := fun_mk (st := s_law_text) l25 c25 k25
  have B25 := F25.binds (ps := ["m"]) fun _ _ _ _ _ _ us hl => match us, hl with | [_], _ => rfl
  have F26 := fun_mk (st := s_law_bent_row) l26 c26 k26
  have B26 := F26.binds (ps := ["m", "row"]) fun _ _ _ _ _ _ us hl => match us, hl with | [_, _], _ => rfl
  have F27 := fun_mk (st := s_law_bent) l27 c27 k27
  have B27 := F27.binds (ps := ["m", "text"]) fun _ _ _ _ _ _ us hl => match us, hl with | [_, _], _ => rfl
  have F28 := fun_mk (st := s_law) l28 c28 k28
  have B28 := F28.binds (ps := ["script"]) fun _ _ _ _ _ _ us hl => match us, hl with | [_], _ => rfl
  have FI0 := fun_mk (st := si_BadCoder) lC0 cC0 kI0
  have BI0 := FI0.binds (ps := ["self", "part", "number"]) fun _ _ _ _ _ _ us hl => match us, hl with | [_, _, _], _ => rfl
  have FI1 := fun_mk (st := si_BadRow) lC1 cC1 kI1
  have BI1 := FI1.binds (ps := ["self", "row", "word"]) fun _ _ _ _ _ _ us hl => match us, hl with | [_, _, _], _ => rfl
  let T : Txt K mg := {
    f_is_integer := f0, d_is_integer := _, F_is_integer := F0, b_is_integer := B0, g_is_integer := PySem.W.mg_of X G a0,
    f_is_between := f1, d_is_between := _, F_is_between := F1, b_is_between := B1, g_is_between := PySem.W.mg_of X G a1,
    f_is_pair := f2, d_is_pair := _, F_is_pair := F2, b_is_pair := B2, g_is_pair := PySem.W.mg_of X G a2,
    f_need_coder := f3, d_need_coder := _, F_need_coder := F3, b_need_coder := B3, g_need_coder := PySem.W.mg_of X G a3,
    f__first_fault := f4, d__first_fault := _, F__first_fault := F4, b__first_fault := B4, g__first_fault := PySem.W.mg_of X G a4,
    f__fault_of_steps := f5, d__fault_of_steps := _, F__fault_of_steps := F5, b__fault_of_steps := B5, g__fault_of_steps := PySem.W.mg_of X G a5,
    f__fault_of_moves := f6, d__fault_of_moves := _, F__fault_of_moves := F6, b__fault_of_moves := B6, g__fault_of_moves := PySem.W.mg_of X G a6,
    f__is_tuple_of := f7, d__is_tuple_of := _, F__is_tuple_of := F7, b__is_tuple_of := B7, g__is_tuple_of := PySem.W.mg_of X G a7,
    f__is_move := f8, d__is_move := _, F__is_move := F8, b__is_move := B8, g__is_move := PySem.W.mg_of X G a8,
    f__is_fade := f9, d__is_fade := _, F__is_fade := F9, b__is_fade := B9, g__is_fade := PySem.W.mg_of X G a9,
    f_read_coder := f10, d_read_coder := _, F_read_coder := F10, b_read_coder := B10, g_read_coder := PySem.W.mg_of X G a10,
    f__need_text := f11, d__need_text := _, F__need_text := F11, b__need_text := B11, g__need_text := PySem.W.mg_of X G a11,
    f__need_no_empty_word := f12, d__need_no_empty_word := _, F__need_no_empty_word := F12, b__need_no_empty_word := B12, g__need_no_empty_word := PySem.W.mg_of X G a12,
    f__need_coder_row := f13, d__need_coder_row := _, F__need_coder_row := F13, b__need_coder_row := B13, g__need_coder_row := PySem.W.mg_of X G a13,
    f__need_row_form := f14, d__need_row_form := _, F__need_row_form := F14, b__need_row_form := B14, g__need_row_form := PySem.W.mg_of X G a14,
    f__is_number := f15, d__is_number := _, F__is_number := F15, b__is_number := B15, g__is_number := PySem.W.mg_of X G a15,
    f__numbers_of := f16, d__numbers_of := _, F__numbers_of := F16, b__numbers_of := B16, g__numbers_of := PySem.W.mg_of X G a16,
    f__law_begun := f17, d__law_begun := _, F__law_begun := F17, b__law_begun := B17, g__law_begun := PySem.W.mg_of X G a17,
    f__law_next := f18, d__law_next := _, F__law_next := F18, b__law_next := B18, g__law_next := PySem.W.mg_of X G a18,
    f__law_outcome := f19, d__law_outcome := _, F__law_outcome := F19, b__law_outcome := B19, g__law_outcome := PySem.W.mg_of X G a19,
    f__law_number := f20, d__law_number := _, F__law_number := F20, b__law_number := B20, g__law_number := PySem.W.mg_of X G a20,
    f__law_row_fault := f21, d__law_row_fault := _, F__law_row_fault := F21, b__law_row_fault := B21, g__law_row_fault := PySem.W.mg_of X G a21,
    f__law_is_pair := f22, d__law_is_pair := _, F__law_is_pair := F22, b__law_is_pair := B22, g__law_is_pair := PySem.W.mg_of X G a22,
    f__law_fault := f23, d__law_fault := _, F__law_fault := F23, b__law_fault := B23, g__law_fault := PySem.W.mg_of X G a23,
    f__law_due := f24, d__law_due := _, F__law_due := F24, b__law_due := B24, g__law_due := PySem.W.mg_of X G a24,
    f__law_text := f25, d__law_text := _, F__law_text := F25, b__law_text := B25, g__law_text := PySem.W.mg_of X G a25,
    f__law_bent_row := f26, d__law_bent_row := _, F__law_bent_row := F26, b__law_bent_row := B26, g__law_bent_row := PySem.W.mg_of X G a26,
    f__law_bent := f27, d__law_bent := _, F__law_bent := F27, b__law_bent := B27, g__law_bent := PySem.W.mg_of X G a27,
    f_law := fa, d_law := _, F_law := F28, b_law := B28, g_law := hfa,
    z_all := PySem.W.mg_none_of X G z_all,
    z_bool := PySem.W.mg_none_of X G z_bool,
    z_enumerate := PySem.W.mg_none_of X G z_enumerate,
    z_int := PySem.W.mg_none_of X G z_int,
    z_isinstance := PySem.W.mg_none_of X G z_isinstance,
    z_len := PySem.W.mg_none_of X G z_len,
    z_list := PySem.W.mg_none_of X G z_list,
    z_min := PySem.W.mg_none_of X G z_min,
    z_range := PySem.W.mg_none_of X G z_range,
    z_repr := PySem.W.mg_none_of X G z_repr,
    z_str := PySem.W.mg_none_of X G z_str,
    z_tuple := PySem.W.mg_none_of X G z_tuple,
    x_BadCoder := ⟨gaC0, ggC0, eC0, hdC0⟩, n_BadCoder_part := nC0part, n_BadCoder_number := nC0number, e_BadCoder_BadRow := exm_of eC1 isC1 tC1 sC0x1,
    C_BadCoder := C0, fi_BadCoder := g0, di_BadCoder := _, g_BadCoder := PySem.W.mg_of X G aC0, o_BadCoder := ⟨⟨_, _, _, _, _, _, _, _, _, _, _, _, _, _, _, xC0, by decide +kernel⟩, saC0, eC0, tC0, kC0⟩, i_BadCoder := iC0, t_BadCoder := tI0, Fi_BadCoder := FI0, bi_BadCoder := BI0, e_BadCoder := exm_of eC0 isC0 tC0 sC0,
    x_BadRow := ⟨gaC1, ggC1, eC1, hdC1⟩, n_BadRow_row := nC1row, n_BadRow_word := nC1word, e_BadRow_BadCoder := exm_of eC0 isC0 tC0 sC1x0,
    C_BadRow := C1, fi_BadRow := g1, di_BadRow := _, g_BadRow := PySem.W.mg_of X G aC1, o_BadRow := ⟨⟨_, _, _, _, _, _, _, _, _, _, _, _, _, _, _, xC1, by decide +kernel⟩, saC1, eC1, tC1, kC1⟩, i_BadRow := iC1, t_BadRow := tI1, Fi_BadRow := FI1, bi_BadRow := BI1, e_BadRow := exm_of eC1 isC1 tC1 sC1,
    vV := vV, zV := PySem.W.mg_none_of X G zV,
    t_DIGITS := tDG, g_DIGITS := PySem.W.mg_of X G dg }
  exact ⟨_, fun s v => .of_eq rfl, fun base _ _ => ok_law T⟩
end My
open PySem PySem.W PyProof.Rows
set_option maxRecDepth 100000 in
set_option maxHeartbeats 0 in
theorem PySem.Challenge.cw_stepsound_k26_whole_wrong_texts_of_coder_holds : PySem.Challenge.rw_stepsound_k26_whole_wrong_texts_of_coder.Holds := by
  w_on; o_law; k_head; (case hw => w_witness2)
  k_fill
  refine My.walk_ofG (l := PySem.Challenge.rw_stepsound_k26_whole_wrong_texts_of_coder) (n := 63) (k := 10) (x := "script") (sp := fun K => My.sp_law (K := K)) rfl (by decide) rfl ⟨rfl, by decide, by decide⟩ (fun w h Y => PySem.W.kIn_of Y) ?F (fun K H a ns hl _ hS => ⟨a, ns, rfl, hS, hl, fun _ => rfl⟩)
  case F =>
    intro w mg fa h KX G hmg
    refine' My.all_mk KX G hmg ?a0 ?l0 ?c0 ?k0 ?a1 ?l1 ?c1 ?k1 ?a2 ?l2 ?c2 ?k2 ?a3 ?l3 ?c3 ?k3 ?a4 ?l4 ?c4 ?k4 ?a5 ?l5 ?c5 ?k5 ?a6 ?l6 ?c6 ?k6 ?a7 ?l7 ?c7 ?k7 ?a8 ?l8 ?c8 ?k8 ?a9 ?l9 ?c9 ?k9 ?a10 ?l10 ?c10 ?k10 ?a11 ?l11 ?c11 ?k11 ?a12 ?l12 ?c12 ?k12 ?a13 ?l13 ?c13 ?k13 ?a14 ?l14 ?c14 ?k14 ?a15 ?l15 ?c15 ?k15 ?a16 ?l16 ?c16 ?k16 ?a17 ?l17 ?c17 ?k17 ?a18 ?l18 ?c18 ?k18 ?a19 ?l19 ?c19 ?k19 ?a20 ?l20 ?c20 ?k20 ?a21 ?l21 ?c21 ?k21 ?a22 ?l22 ?c22 ?k22 ?a23 ?l23 ?c23 ?k23 ?a24 ?l24 ?c24 ?k24 ?a25 ?l25 ?c25 ?k25 ?a26 ?l26 ?c26 ?k26 ?a27 ?l27 ?c27 ?k27 ?a28 ?l28 ?c28 ?k28 ?z_all ?z_bool ?z_enumerate ?z_int ?z_isinstance ?z_len ?z_list ?z_min ?z_range ?z_repr ?z_str ?z_tuple ?aC0 ?xC0 ?saC0 ?iC0 ?tI0 ?lC0 ?cC0 ?kI0 ?kC0 ?eC0 ?tC0 ?isC0 ?sC0 ?gaC0 ?ggC0 ?hdC0 ?nC0part ?nC0number ?aC1 ?xC1 ?saC1 ?iC1 ?tI1 ?lC1 ?cC1 ?kI1 ?kC1 ?eC1 ?tC1 ?isC1 ?sC1 ?gaC1 ?ggC1 ?hdC1 ?nC1row ?nC1word ?sC0x1 ?sC1x0 ?vV ?zV ?dg
    (case a0 => k_is)
    (case l0 => k_is)
    (case c0 => k_is)
    (case k0 => k_is)
    (case a1 => k_is)
    (case l1 => k_is)
    (case c1 => k_is)
    (case k1 => k_is)
    (case a2 => k_is)
    (case l2 => k_is)
    (case c2 => k_is)
    (case k2 => k_is)
    (case a3 => k_is)
    (case l3 => k_is)
    (case c3 => k_is)
    (case k3 => k_is)
    (case a4 => k_is)
    (case l4 => k_is)
    (case c4 => k_is)
    (case k4 => k_is)
    (case a5 => k_is)
    (case l5 => k_is)
    (case c5 => k_is)
    (case k5 => k_is)
    (case a6 => k_is)
    (case l6 => k_is)
    (case c6 => k_is)
    (case k6 => k_is)
    (case a7 => k_is)
    (case l7 => k_is)
    (case c7 => k_is)
    (case k7 => k_is)
    (case a8 => k_is)
    (case l8 => k_is)
    (case c8 => k_is)
    (case k8 => k_is)
    (case a9 => k_is)
    (case l9 => k_is)
    (case c9 => k_is)
    (case k9 => k_is)
    (case a10 => k_is)
    (case l10 => k_is)
    (case c10 => k_is)
    (case k10 => k_is)
    (case a11 => k_is)
    (case l11 => k_is)
    (case c11 => k_is)
    (case k11 => k_is)
    (case a12 => k_is)
    (case l12 => k_is)
    (case c12 => k_is)
    (case k12 => k_is)
    (case a13 => k_is)
    (case l13 => k_is)
    (case c13 => k_is)
    (case k13 => k_is)
    (case a14 => k_is)
    (case l14 => k_is)
    (case c14 => k_is)
    (case k14 => k_is)
    (case a15 => k_is)
    (case l15 => k_is)
    (case c15 => k_is)
    (case k15 => k_is)
    (case a16 => k_is)
    (case l16 => k_is)
    (case c16 => k_is)
    (case k16 => k_is)
    (case a17 => k_is)
    (case l17 => k_is)
    (case c17 => k_is)
    (case k17 => k_is)
    (case a18 => k_is)
    (case l18 => k_is)
    (case c18 => k_is)
    (case k18 => k_is)
    (case a19 => k_is)
    (case l19 => k_is)
    (case c19 => k_is)
    (case k19 => k_is)
    (case a20 => k_is)
    (case l20 => k_is)
    (case c20 => k_is)
    (case k20 => k_is)
    (case a21 => k_is)
    (case l21 => k_is)
    (case c21 => k_is)
    (case k21 => k_is)
    (case a22 => k_is)
    (case l22 => k_is)
    (case c22 => k_is)
    (case k22 => k_is)
    (case a23 => k_is)
    (case l23 => k_is)
    (case c23 => k_is)
    (case k23 => k_is)
    (case a24 => k_is)
    (case l24 => k_is)
    (case c24 => k_is)
    (case k24 => k_is)
    (case a25 => k_is)
    (case l25 => k_is)
    (case c25 => k_is)
    (case k25 => k_is)
    (case a26 => k_is)
    (case l26 => k_is)
    (case c26 => k_is)
    (case k26 => k_is)
    (case a27 => k_is)
    (case l27 => k_is)
    (case c27 => k_is)
    (case k27 => k_is)
    (case a28 => k_is)
    (case l28 => k_is)
    (case c28 => k_is)
    (case k28 => k_is)
    (case z_all => k_is)
    (case z_bool => k_is)
    (case z_enumerate => k_is)
    (case z_int => k_is)
    (case z_isinstance => k_is)
    (case z_len => k_is)
    (case z_list => k_is)
    (case z_min => k_is)
    (case z_range => k_is)
    (case z_repr => k_is)
    (case z_str => k_is)
    (case z_tuple => k_is)
    (case aC0 => k_is)
    (case xC0 => k_is)
    (case saC0 => k_is)
    (case iC0 => k_is)
    (case tI0 => k_is)
    (case lC0 => k_is)
    (case cC0 => k_is)
    (case kI0 => k_is)
    (case kC0 => k_is)
    (case eC0 => k_is)
    (case tC0 => k_is)
    (case isC0 => k_is)
    (case sC0 => first | rfl | k_is | decide +kernel)
    (case gaC0 => k_is)
    (case ggC0 => k_is)
    (case hdC0 => k_is)
    (case nC0part => k_is)
    (case nC0number => k_is)
    (case aC1 => k_is)
    (case xC1 => k_is)
    (case saC1 => k_is)
    (case iC1 => k_is)
    (case tI1 => k_is)
    (case lC1 => k_is)
    (case cC1 => k_is)
    (case kI1 => k_is)
    (case kC1 => k_is)
    (case eC1 => k_is)
    (case tC1 => k_is)
    (case isC1 => k_is)
    (case sC1 => first | rfl | k_is | decide +kernel)
    (case gaC1 => k_is)
    (case ggC1 => k_is)
    (case hdC1 => k_is)
    (case nC1row => k_is)
    (case nC1word => k_is)
    (case sC0x1 => first | rfl | k_is | decide +kernel)
    (case sC1x0 => first | rfl | k_is | decide +kernel)
    (case vV => first | rfl | k_is | decide +kernel)
    (case zV => k_is)
    (case dg => k_is)


