import PyProof.Rows.All
import Wide.All
import OpenK.AllK
import Wide.FinOn
import HandS.ForMost
import HandS.Wide
import HandS.IsInst
import HandS.TupAny
import HandS.Conv
import KE.GoesMore
import KE.GoesEnum
import HandS.Text
import HandS.FStr
import HandS.Defaults
import HandS.ForExc
import HandS.Walk
import PySem.Challenge.RW_stepsound_k25_whole_texts_of_coders
set_option Elab.async false
set_option linter.all false
set_option maxRecDepth 100000
namespace My
open PySem PySem.Spec PyProof.Rows L2

/-! ### heaps -/
theorem same_new {H : Hp} {p : Addr} {o : HO} (h : H p = none) : Same H (upd H p o) := fun b x e => by
  rw [upd_ne (ne_of_none e h)]
  exact e
theorem same_tup {K : PySem.W.Frag} {H H' : Hp} {a : Addr} {xs : List V} (e : Same H H') (h : SqT K H a xs) : SqT K H' a xs := by
  rcases h with (h | ⟨o, h⟩) | h
  · exact .inl (.inl (e _ _ h))
  · exact .inl (.inr ⟨o, e _ _ h⟩)
  · exact .inr h
/-- every tuple stands -/
def TupS (H H' : Hp) : Prop := ∀ b xs, H b = some (.tup xs) → H' b = some (.tup xs)
theorem Same.tupS {H H' : Hp} (e : Same H H') : TupS H H' := fun b xs h => e b _ h

/-! ### rules within a comprehension: the written part by its own name -/
theorem ix_tupK {X : Cx} {K : PySem.W.Frag} (h : X.K = K := by rfl) : IxR X (rIxT K) := by
  subst h
  exact ix_tup
theorem ix_listK {X : Cx} {K : PySem.W.Frag} (h : X.K = K := by rfl) : IxR X (rIxL K) := by
  subst h
  exact ix_list
def rLen (K : PySem.W.Frag) : List V → Hp → VK → Prop := fun xs H Q => ∃ p ys, xs = [.ref p] ∧ (SqL K H p ys ∨ SqT K H p ys) ∧ Q (.int ys.length) H
theorem call_lenK {X : Cx} {K : PySem.W.Frag} (h : X.K = K := by rfl) : CallR X (.builtin "len") (rLen K) := by
  subst h
  exact call_len_seq
/-! ### the drawer of a law: a dict of two lists and a number -/
def dd (c l : Addr) (k : Int) : List (Key × V) := [(.inr "cells", .ref c), (.inr "left", .ref l), (.inr "at", .int k)]
theorem nCL : ¬ ((Sum.inr ("cells" : Str) : Key) = Sum.inr ("left" : Str)) := by decide +kernel
theorem nCA : ¬ ((Sum.inr ("cells" : Str) : Key) = Sum.inr ("at" : Str)) := by decide +kernel
theorem nLC : ¬ ((Sum.inr ("left" : Str) : Key) = Sum.inr ("cells" : Str)) := by decide +kernel
theorem nLA : ¬ ((Sum.inr ("left" : Str) : Key) = Sum.inr ("at" : Str)) := by decide +kernel
theorem nAC : ¬ ((Sum.inr ("at" : Str) : Key) = Sum.inr ("cells" : Str)) := by decide +kernel
theorem nAL : ¬ ((Sum.inr ("at" : Str) : Key) = Sum.inr ("left" : Str)) := by decide +kernel
theorem dd_c (c l : Addr) (k : Int) : valV (dd c l k) (.inr "cells") = some (.ref c) := valV_pos rfl
theorem dd_l (c l : Addr) (k : Int) : valV (dd c l k) (.inr "left") = some (.ref l) := (valV_neg nCL).trans (valV_pos rfl)
theorem dd_a (c l : Addr) (k : Int) : valV (dd c l k) (.inr "at") = some (.int k) := (valV_neg nCA).trans ((valV_neg nLA).trans (valV_pos rfl))
theorem sCL : ¬ (("cells" : Str) = "left") := by decide +kernel
theorem sCA : ¬ (("cells" : Str) = "at") := by decide +kernel
theorem sLA : ¬ (("left" : Str) = "at") := by decide +kernel
theorem sAL : ¬ (("at" : Str) = "left") := by decide +kernel
theorem dd_pl (c l l' : Addr) (k : Int) : putK (dd c l k) (.inr "left") (.ref l') = dd c l' k := by
  simp [putK, dd, sCL, sAL]
theorem dd_pa (c l : Addr) (k k' : Int) : putK (dd c l k) (.inr "at") (.int k') = dd c l k' := by
  simp [putK, dd, sCA, sLA]
theorem dd_mk (c l : Addr) : mergeK [] [(Sum.inr "cells", V.ref c), (Sum.inr "left", V.ref l), (Sum.inr "at", V.int 0)] = dd c l 0 := by
  simp [mergeK, putK, dd, sCL, sCA, sLA]

/-- at m the drawer with its lists at c and l, for n draws more -/
structure Dr (H : Hp) (m c l : Addr) (n : Nat) : Prop where
  ex : ∃ (cs ls : List Int) (k : Int), H m = some (.dK (dd c l k)) ∧ H c = some (.lst (cs.map V.int)) ∧ H l = some (.lst (ls.map V.int)) ∧ c ≠ l ∧
    cs.length ≤ 63 ∧ ls.length ≤ 63 ∧ (∀ x ∈ ls, 0 ≤ x) ∧ 0 ≤ k ∧ k + (n : Int) ≤ 1000000
/-- all but the drawer's own stands; its list of what is left is the old one or new -/
structure Kp (m l : Addr) (H : Hp) (l' : Addr) (H' : Hp) : Prop where
  st : ∀ b o, H b = some o → b ≠ m → b ≠ l → H' b = some o
  nw : l' = l ∨ H l' = none
  dm : ∀ b, H' b = none → H b = none
theorem Kp.refl (m l : Addr) (H : Hp) : Kp m l H l H := ⟨fun _ _ h _ _ => h, .inl rfl, fun _ h => h⟩
theorem Kp.off {m l l' : Addr} {H H' : Hp} (k : Kp m l H l' H') {b : Addr} {o : HO} (h : H b = some o) (n : b ≠ l) : b ≠ l' := by
  rcases k.nw with e | e
  · rw [e]; exact n
  · exact ne_of_none h e
theorem Kp.trans {m l l' l'' : Addr} {H H' H'' : Hp} (a : Kp m l H l' H') (b : Kp m l' H' l'' H'') : Kp m l H l'' H'' := by
  refine ⟨fun q o h n1 n2 => b.st q o (a.st q o h n1 n2) n1 (a.off h n2), ?_, fun q e => a.dm q (b.dm q e)⟩
  rcases b.nw with e | e
  · rw [e]; exact a.nw
  · exact .inr (a.dm _ e)
/-- a new object -/
theorem Kp.new {m l : Addr} {H : Hp} {p : Addr} {o : HO} (h : H p = none) : Kp m l H l (upd H p o) := by
  refine ⟨fun b u e _ _ => same_new h b u e, .inl rfl, fun b e => ?_⟩
  unfold upd at e
  split at e
  · cases e
  · exact e
theorem Dr.new {H : Hp} {m c l n : Nat} {p : Addr} {o : HO} (d : Dr H m c l n) (h : H p = none) : Dr (upd H p o) m c l n := by
  obtain ⟨cs, ls, k, h1, h2, h3, r⟩ := d.ex
  exact ⟨cs, ls, k, same_new h _ _ h1, same_new h _ _ h2, same_new h _ _ h3, r⟩
/-- a change of another object than the drawer's -/
theorem Dr.set {H : Hp} {m c l n : Nat} {p : Addr} {o : HO} (d : Dr H m c l n) (n1 : p ≠ m) (n2 : p ≠ c) (n3 : p ≠ l) : Dr (upd H p o) m c l n := by
  obtain ⟨cs, ls, k, h1, h2, h3, r⟩ := d.ex
  exact ⟨cs, ls, k, (upd_ne n1.symm).trans h1, (upd_ne n2.symm).trans h2, (upd_ne n3.symm).trans h3, r⟩
theorem Dr.less {H : Hp} {m c l n k : Nat} (d : Dr H m c l n) (h : k ≤ n) : Dr H m c l k := by
  obtain ⟨cs, ls, z, h1, h2, h3, h4, h5, h6, h7, h8, h9⟩ := d.ex
  exact ⟨cs, ls, z, h1, h2, h3, h4, h5, h6, h7, h8, by omega⟩
theorem Dr.same {H H' : Hp} {m c l n : Nat} (d : Dr H m c l n) (s : Same H H') : Dr H' m c l n := by
  obtain ⟨cs, ls, k, h1, h2, h3, r⟩ := d.ex
  exact ⟨cs, ls, k, s _ _ h1, s _ _ h2, s _ _ h3, r⟩
theorem Kp.same {m l : Addr} {H H' : Hp} (s : Same H H') : Kp m l H l H' := ⟨fun b o h _ _ => s b o h, .inl rfl, fun _ h => s.free h⟩
/-- tuples stand -/
theorem Kp.tup {m c l l' n : Addr} {H H' : Hp} (k : Kp m l H l' H') (d : Dr H m c l n) : TupS H H' := fun b xs h => by
  obtain ⟨cs, ls, z, h1, h2, h3, r⟩ := d.ex
  exact k.st b _ h (ne_of h h1 nofun) (ne_of h h3 nofun)
end My

/-! Defs that write out data (repr): their promise is asked only where nothing is being written out around them. -/
namespace My
open PySem PySem.Spec PyProof.Rows L2
/-- as the layer's promise of a def, for calls around which no guard stands -/
structure FnG (P : Program) (w : World) (K : PySem.W.Frag) (mg : Str → Option Value) (base : Heap) (k : Nat) (f : Addr) (fd : FuncData)
    (ps : List Str) (sp : Sp) : Prop where
  len : ∀ vs H Q E, sp vs H Q E → vs.length = ps.length
  go : ∀ (A : Around) (outer : List Env) (s : Shared) (H : Hp) (args : Args) (us : List Value) (vs : List V) (Q : VK) (E : XK),
    A.guards = some [] → Room k A → Env0 P w K mg base A outer s H → BindsTo s fd args (ps.zip us) → Vals vs us → sp vs H Q E →
    codeAny (model P w) A (.call (.ref f) args) (CR CX0 outer P w H s Q E) s
section
variable {P : Program} {w : World} {K : PySem.W.Frag} {mg : Str → Option Value} {base : Heap}
theorem FnG.of {k : Nat} {f : Addr} {fd : FuncData} {ps : List Str} {sp : Sp} (F : FnOk P w K mg base CX0 k f fd ps sp) : FnG P w K mg base k f fd ps sp :=
  ⟨F.len, fun A o s H args us vs Q E _ hr => F.run A o s H args us vs Q E hr⟩
theorem okG {x qual : Str} {st : Stmt} {f : Addr} {fd : FuncData} {N ps : List Str} {k : Nat} {sp : Sp} (F : Fun K x qual st f fd)
    (S : FnScope N ps (defScope st)) (len : ∀ vs H Q E, sp vs H Q E → vs.length = ps.length)
    (body : ∀ (cdv : Value) (A : Around) (outer : List Env) (s : Shared) (H : Hp) (vs : List V) (Q : VK) (E : XK), A.guards = some [] →
      Room k (A.deeper (envOfC qual (defScope st) s.heap.objs.size f cdv)) → sp vs H Q E →
      ∃ t, PSs (cxOf CX0 P w K mg base N qual (defScope st) f cdv A outer s H E).nox (defBody st) t ∧
        t { nx := fun _ H' => Q .non H', rt := Q } (start N vs) H) :
    FnG P w K mg base (k + 1) f fd ps sp := by
  obtain ⟨oc, od, kV, doc, pm, an, cdv, ct, osl, rfl, lk, hcd⟩ := F.ex
  refine ⟨len, fun A outer s H args us vs Q E hg room env0 binds rel want => ?_⟩
  have inK : K.In s.heap := env0.mod.kin.keeps fun b o e => (env0.bs b o e).1
  have noLim : s.heap.NoLimit := env0.mod.nolimit.keeps fun b o e => (env0.bs b o e).1
  have kinds : ∀ y ∈ ps.zip us, (defScope st).names.lookup y.1 = some .local ∨
      ((defScope st).names.lookup y.1 = some .cell ∧ ((cellsFrom (s.heap.objs.size + 1) (defScope st).names []).lookup y.1).isSome = true) := by
    rintro ⟨n, v⟩ hy
    rcases S.par n (List.of_mem_zip hy).1 with q | q
    · exact Or.inl q
    · exact Or.inr ⟨q, PySem.W.cellsFrom_some _ _ _ (Or.inl q)⟩
  refine codeAny_call_function room.depth (inK _ _ lk) rfl S.co S.gen rfl (PySem.W.codeRec_of inK hcd)
    (binds _ _ _ _ ?_)
  refine wpAny_newFunctionEnv_cells S.kind kinds
    fun env he s1 x => ?_
  subst he
  refine ⟨noLim.keeps x.toInCall.keep,
    codeAny_func ?_⟩
  obtain ⟨t, ht, run⟩ := body cdv A outer s H vs Q E hg (room.deeper _) want
  have start0 : Inv (cxOf CX0 P w K mg base N qual (defScope st) f cdv A outer s H E) [] (start N vs) H s1 :=
    inv_start S room.hd env0 (len _ _ _ _ want) rel x
  refine wpAny_mono (ht.nox.run [] s1 (start N vs) H _ start0 run)
    (fun flow s' hs => ?_) fun e s' hs => hs
  have fin : ∀ {σ' : L2.St} {H' : Hp} {v : V} {u : Value}, Inv (cxOf CX0 P w K mg base N qual (defScope st) f cdv A outer s H E) [] σ' H' s' →
      RelV v u → Q v H' → CE outer P w H s Q u s' :=
    fun {_ H' v _} J rv q => ⟨v, H', J.os, J.bare, J.base, J.hok, rv, q⟩
  cases flow with
  | ret u =>
    obtain ⟨v, σ', H', J, rv, q⟩ := hs
    exact fin J rv q
  | next =>
    obtain ⟨σ', H', J, q⟩ := hs
    exact fin (v := V.non) (u := Value.none) J rfl q
  | brk => obtain ⟨_, _, _, q⟩ := hs; exact q.elim
  | cont => obtain ⟨_, _, _, q⟩ := hs; exact q.elim
end
section
variable {X : Cx}
theorem goG {k : Nat} {f : Addr} {fd : FuncData} {ps : List Str} {sp : Sp} {ds : List Value} {dvs : List V} {E : XK} {pins : List (Addr × Obj)} {σ : L2.St} {H : Hp} {s : Shared} {Q : VK} {us : List Value} {vs : List V}
    (F : FnG X.prog X.w X.K X.mg X.base k f fd ps sp) (hg : X.A.guards = some []) (hr : Room k X.A) (hb : Binds X.K fd ps ds) (hd : Vals dvs ds) (hx : Passes CX0 X E)
    (I : Inv X pins σ H s) (r : Vals vs us) (h : sp (vs ++ dvs) H Q E) :
    wpAny (model X.prog X.w) X.A (call (.ref f) us) (EP X pins σ Q) X.xe s := by
  have rr : Vals (vs ++ dvs) (us ++ ds) := r.append hd
  have len : (us ++ ds).length = ps.length := rr.length ▸ F.len _ _ _ _ h
  refine wpAny_call (codeAny_mono (F.go X.A X.stack s H ⟨us, []⟩ (us ++ ds) (vs ++ dvs) Q E hg hr I.env0 (hb s us I.kIn len) rr h) ?_)
  intro res s' hq
  match res, hq with
  | .error e, hq => exact hx pins σ H s e s' I hq
  | .ok (.ret u), hq => exact I.after hq
/-- f(e, ..), f writing out data -/
theorem pe_callG {k : Nat} {f : Addr} {fd : FuncData} {ps : List Str} {sp : Sp} {ds : List Value} {dvs : List V} {E : XK} {x : Str} {e : Expr} {es : List Expr} {t : TA} {p pos : Pos}
    (F : FnG X.prog X.w X.K X.mg X.base k f fd ps sp) (hgd : X.A.guards = some []) (hr : Room k X.A) (hg : Gl X x) (hm : X.mg x = some (.ref f)) (hk : PySem.W.keepIn X.K (.ref f) = true)
    (hb : Binds X.K fd ps ds) (hd : Vals dvs ds) (hx : Passes CX0 X E) (ha : PA X (e :: es) t) (hdb : (x == ("__debug__" : Str)) = false := by decide)
    (he : starEach (e :: es) X.env = (false, eval e X.env) :: starEach es X.env := by rfl)
    (hpl : (backTo pos (starEach es X.env)).any (·.1) = false := by rfl) :
    PE X (.Call (.Name x p) (e :: es) [] pos) (tCall sp dvs E t) := by
  refine ⟨fun pins s σ H Q I h => wpAny_Call_Name_kw (ld_glob I hg hm ?_ hdb)⟩
  refine PySem.W.callWith_K (h₀ := X.base) I.ok.mod.kin hk
    (thn (ha.run pos pins s σ H _ I h) fun us s1 ⟨vs, H1, I1, r, q⟩ => ⟨I1.kIn, ?_⟩) he hpl
  exact goG F hgd hr hb hd hx I1 r q

/-! ### repr -/
def rRepr (K : PySem.W.Frag) : List V → Hp → VK → Prop := fun xs H Q => ∃ (v : V) (d : PyData), xs = [v] ∧ Dp K H v d ∧ d.showable = true ∧ d.hasDict = false ∧
  d.depth ≤ 60 ∧ d.shown.length ≤ sizeLine ∧ Q (.str d.shown) H
theorem call_repr (hg : X.A.guards = some []) (hu : X.A.units + 64 < cLine) : CallR X (.builtin "repr") (rRepr X.K) := by
  intro pins s σ H xs us Q I r h
  obtain ⟨v, d, rfl, hd, hs, hn, hdp, hz, q⟩ := h
  obtain ⟨u, rfl, ru⟩ := vals1 r
  cases hd with
  | non =>
    cases ru
    exact P.repr_of_none ⟨.str _, H, I.tok _, ⟨_, rfl⟩, q⟩
  | bl b =>
    cases ru
    exact P.repr_of_bool ⟨.str _, H, I.tok _, ⟨_, rfl⟩, q⟩
  | int i =>
    obtain ⟨t, rfl⟩ := ru
    exact P.repr_of_int (of_decide_eq_true hs) ⟨.str _, H, I.tok _, ⟨_, rfl⟩, q⟩
  | str x =>
    obtain ⟨t, rfl⟩ := ru
    exact P.repr_of_str ⟨.str _, H, I.tok _, ⟨_, rfl⟩, q⟩ hz
  | @lst a xs ds h1 h2 =>
    cases ru
    obtain ⟨as, rd⟩ := Dp.reads I (.list ds) (.ref a) (.ref a) (.lst h1 h2) rfl
    refine repr_of_reads' rd hs (fun z => by rw [hn] at z; cases z) hg (by omega) (fun _ _ e => e) (fun h' u tk hk => ?_) hz
    exact ⟨.str _, H, I.kept hk, ⟨_, rfl⟩, q⟩
  | @tup a xs ds h1 h2 =>
    cases ru
    obtain ⟨as, rd⟩ := Dp.reads I (.tuple ds) (.ref a) (.ref a) (.tup h1 h2) rfl
    refine repr_of_reads' rd hs (fun z => by rw [hn] at z; cases z) hg (by omega) (fun _ _ e => e) (fun h' u tk hk => ?_) hz
    exact ⟨.str _, H, I.kept hk, ⟨_, rfl⟩, q⟩
end
end My

/-! The end of a law whose promise is asked where no guard stands. -/
namespace My
open PySem PySem.Spec PyProof.Rows L2
theorem law_callG {P : Program} {w : World} {K : PySem.W.Frag} {mg mb : Str → Option Value} {k : Nat} {fa a : Addr} {fd : FuncData} {x : Str} {sp : Sp} {s₁ : Shared} {vs : List Value} {ns : List Int}
    (inK : K.In s₁.heap) (glob : s₁.heap.Ns mainGlobals mg) (blt : s₁.heap.Ns builtinsNs mb) (boot : ∀ x : Str, x ≠ "__name__" → mb x = bootBuiltins x) (nolim : s₁.heap.NoLimit) (nogen : s₁.gens = #[])
    (hobj : s₁.heap.get? a = some { cls := .type "list", data := .seq vs.toArray }) (hints : IntsAre vs ns) (hlen : ns.length ≤ sizeLine) (room : Room k callerA)
    (F : ∀ base : Heap, K.In base → base.Ns mainGlobals mg → FnG P w K mg base k fa fd [x] sp) (binds : ∀ (s : Shared) (u : Value), BindsTo s fd ⟨[u], []⟩ [(x, u)])
    (want : ∀ H : Hp, Only H → SqL K H a (ns.map V.int) → sp [.ref a] H (fun v _ => v = .bl true) fun _ _ _ => False) :
    codeAny (model P w) callerA (.call (.ref fa) ⟨[.ref a], []⟩) (fun r s' => r = .ok (.ret (.bool true)) ∧ OldK s₁.heap s'.heap ∧ s'.os = s₁.os ∧ AllBare s'.gens) s₁ := by
  have relv := vals_ints hints
  have core : ∀ H : Hp, Only H → SqL K H a (ns.map V.int) → HOk P w H s₁.heap → (∀ b, H b ≠ none → b = a) → (H a ≠ none → K.lookup a = none) →
      codeAny (model P w) callerA (.call (.ref fa) ⟨[.ref a], []⟩) (fun r s' => r = .ok (.ret (.bool true)) ∧ OldK s₁.heap s'.heap ∧ s'.os = s₁.os ∧ AllBare s'.gens) s₁ := by
    intro H only seq ok one notK
    have up : ∀ {b : Addr} {o : Obj}, s₁.heap.get? b = some o → H b = none → (hidT s₁.heap H).get? b = some o := fun e n => hidT_get e n
    have dictFree : ∀ {b : Addr} {o : Obj} {es : Array DictEntry} {ep : Nat}, s₁.heap.get? b = some o → o.data = .dict es ep → H b = none := by
      intro b o es ep e d
      cases q : H b with
      | none => rfl
      | some u =>
        have eb : b = a := one b (fun z => by rw [q] at z; cases z)
        rw [eb, hobj] at e
        cases e
        exact Data.noConfusion (show Data.seq vs.toArray _ = Data.dict es ep from d)
    have nsUp : ∀ {b : Addr} {m : Str → Option Value}, s₁.heap.Ns b m → (hidT s₁.heap H).Ns b m :=
      fun {_ _} ⟨o, es, ep, e, d, r⟩ => ⟨o, es, ep, up e (dictFree e d), d, r⟩
    have kUp : K.In (hidT s₁.heap H) := by
      intro b o e
      refine up (inK b o e) ?_
      cases q : H b with
      | none => rfl
      | some u =>
        have eb : b = a := one b (fun z => by rw [q] at z; cases z)
        rw [eb, notK (fun z => by rw [← eb, q] at z; cases z)] at e
        cases e
    have mod : Mod K mg (hidT s₁.heap H) := ⟨kUp, nsUp glob, ⟨mb, nsUp blt, boot⟩, nolim.imp fun mc z => ⟨nsUp z.1, z.2⟩⟩
    have env0 : Env0 P w K mg (hidT s₁.heap H) callerA [] s₁ H :=
      ⟨rfl, mod, fun b o e => of_hidT e, Nat.le_of_eq (hidT_size _ _), trivial, fun b hb => absurd (show b ∈ ([] : List Addr) from hb) (by simp), ok, .of_eq nogen⟩
    have call := (F _ kUp (nsUp glob)).go callerA [] s₁ H ⟨[.ref a], []⟩ [.ref a] [.ref a] _ _ rfl room env0 (binds s₁ (.ref a)) (.cons rfl .nil) (want H only seq)
    refine codeAny_mono call fun r s' h => ?_
    match r, h with
    | .error e, h => exact (show False from h).elim
    | .ok (.ret u), h =>
      obtain ⟨v, H', os, bare, un, ok', rv, q⟩ := h
      obtain rfl : v = .bl true := q
      obtain rfl : u = Value.bool true := rv
      refine ⟨rfl, OldK.of_keep (fun b o e => ?_), os, bare⟩
      rcases only b with z | ⟨ob, xs, z⟩
      · exact un.keep b o e z (fun y => absurd (show b ∈ ([] : List Addr) from y) (by simp)) (by simp)
      · obtain ⟨e1, _⟩ := ok b _ z
        obtain ⟨e2, _⟩ := ok' b _ (un.frzs b ob _ z)
        rw [e] at e1
        cases e1
        exact e2
  cases hk : K.lookup a with
  | some o =>
    have e := inK a o hk
    rw [hobj] at e
    cases e
    have stands : SqL K (fun _ => none) a (ns.map V.int) := .inr ⟨_, vs.toArray, _, hk, rfl, rfl, rfl, by rw [List.size_toArray, hints.length]; exact hlen, by simpa using relv⟩
    exact core (fun _ => none) (fun _ => .inl rfl) stands (fun b u z => nomatch (show (none : Option HO) = some u from z)) (fun b z => absurd rfl z) fun z => absurd rfl z
  | none =>
    let o : Obj := { cls := .type "list", data := .seq vs.toArray }
    have atA : (fun b => if b = a then some (HO.frz o (.lst (ns.map V.int))) else none) a = some (.frz o (.lst (ns.map V.int))) := if_pos rfl
    refine core (fun b => if b = a then some (.frz o (.lst (ns.map V.int))) else none) (fun b => ?_) (.inl (.inr ⟨o, atA⟩)) (fun b u z => ?_) (fun b z => ?_) fun _ => hk
    · by_cases hb : b = a
      · exact .inr ⟨_, _, if_pos hb⟩
      · exact .inl (if_neg hb)
    · by_cases hb : b = a
      · have y := (if_pos hb).symm.trans z
        cases y
        rw [hb]
        exact ⟨hobj, by rw [List.length_map]; exact hlen, vs, _, relv, hobj⟩
      · exact nomatch (if_neg hb).symm.trans z
    · by_cases hb : b = a
      · exact hb
      · exact absurd (if_neg hb) z
theorem walk_ofG {l : PySem.W.OpenLaw} {n k : Nat} {q : Program} {loose : List Str} {XP : (Str → Option Value) → Heap → Prop} {YP : World → Heap → Prop} {d : DefRec}
    {K : Params → PySem.W.Frag} {sp : PySem.W.Frag → Sp} {x : Str}
    (hn : l.most = some n) (hn2 : n ≤ sizeLine) (hdf : d.params.defaults = []) (room : Room k callerA)
    (hY : ∀ (w : World) (h : Heap), YP w h → (K w.params).In h)
    (F : ∀ (w : World) (mg : Str → Option Value) (fa : Addr) (h : Heap), (K w.params).In h → h.Ns mainGlobals mg → mg d.name = some (.ref fa) →
      ∃ fd : FuncData, (∀ (s : Shared) (u : Value), BindsTo s fd ⟨[u], []⟩ [(x, u)]) ∧
        ∀ base : Heap, (K w.params).In base → base.Ns mainGlobals mg → FnG l.prog w (K w.params) mg base k fa fd [x] (sp (K w.params)))
    (want : ∀ (K : PySem.W.Frag) (H : Hp) (a : Addr) (ns : List Int), ns.length ≤ n → Only H → SqL K H a (ns.map V.int) → sp K [.ref a] H (fun v _ => v = .bl true) fun _ _ _ => False) :
    PySem.W.WalkO q loose XP YP l.row.toRowW d [] (fun f vs => PySem.call f vs) := by
  refine Att.attach_call hn hdf fun w s₀ s₁ mg mb fa o pm cd doc a vs ns G Y ho hd hcd hmg hobj hints hlen hg => ?_
  obtain ⟨fd, hb, hF⟩ := F w mg fa _ (hY w _ Y) G.T.g hmg
  exact law_callG (hY w _ Y) G.T.g G.T.b G.T.builtins G.T.nolimit hg hobj hints
    (Nat.le_trans hlen hn2) room hF hb fun H only seq => want (K w.params) H a ns hlen only seq
end My

/-! for i, x in enumerate(t), t a tuple. -/
namespace My
open PySem PySem.Spec PyProof.Rows L2
/-- what enumerate(v) makes: v's iterator and itself -/
def enumO (a : Addr) : Obj :=
  { cls := .type "enumerate",
    data := .fields #[.none, .bool false, .ref a, rawInt 0, .none, .none] }
set_option maxHeartbeats 1000000 in
theorem meets_enum1 {v : Value} {o : Obj} {G : Heap → Prop} (B : Begins v o G) :
    Meets (Builtin.«enumerate.__new__» ⟨[.type "enumerate", v], []⟩) (fun _ R s => G s.heap ∧
      R (.ok (.ret (.ref (s.heap.push o).objs.size)))
        { s with heap := (s.heap.push o).push (enumO s.heap.objs.size) }) :=
  .of_wp fun prog w A R s ⟨h1, h⟩ => by
    obtain ⟨hp, gens, drawn, tk, os⟩ := s
    have isSub := sub_enumerate
    have step : ∀ {A' : Around} {E : Value → Shared → Prop} {Q : Value → Shared → Prop}, Q (.ref hp.objs.size) ⟨hp.push o, gens, drawn, tk, os⟩ →
        wpAny (model prog w) A' (pyIter v) Q E ⟨hp, gens, drawn, tk, os⟩ :=
      fun q => B.iter prog w _ _ ⟨hp, gens, drawn, tk, os⟩ _ h1 q
    wp_walk using step
    refine wpAny_stack_any fun st => wpAny_pure ?_
    split
    · rename_i c _ _ _ _ _
      by_cases hc : (c == Value.type "enumerate") = true
      · rw [hc]
        wp_walk using step
        exact ⟨_, rfl, h⟩
      · rw [Bool.not_eq_true] at hc
        rw [hc]
        wp_walk using step
        exact ⟨_, rfl, h⟩
    · wp_walk using step
      exact ⟨_, rfl, h⟩
section
variable {prog : Program} {w : World} {A : Around} {E : Value → Shared → Prop} {s : Shared}
theorem enum_call1 {v : Value} {o : Obj} {G : Heap → Prop} {Q : Value → Shared → Prop} (B : Begins v o G) (h1 : G s.heap)
    (h : ∀ h', IsEnum h' (s.heap.objs.size + 1) s.heap.objs.size 0 .none → h'.get? s.heap.objs.size = some o →
      (∀ b u, s.heap.get? b = some u → h'.get? b = some u) → Q (.ref (s.heap.objs.size + 1)) { s with heap := h' }) :
    wpAny (model prog w) A (call (.type "enumerate") [v]) Q E s := by
  have size1 : (s.heap.push o).objs.size = s.heap.objs.size + 1 := Heap.size_push ..
  have made : IsEnum ((s.heap.push o).push (enumO s.heap.objs.size)) (s.heap.objs.size + 1) s.heap.objs.size 0 .none := by
    have z := Heap.get?_push_size (s.heap.push o) (o := enumO s.heap.objs.size) rfl
    rw [size1] at z
    exact z
  refine callType_new F.called_enumerate (by decide) (F.typeCall_enumerate_1 _) (F.newCall_enumerate_1 _)
    (fun obj => F.args_object_init_2 obj _) F.entry_enumerate_new (meets_enum1 B) ⟨h1, ?_⟩
  show _ ∧ _
  rw [size1]
  exact ⟨⟨_, made, rfl⟩, h _ made (Heap.get?_push_of_some _ (Heap.get?_push_size _ B.free)) fun b u x => Heap.get?_push_of_some _ (Heap.get?_push_of_some _ x)⟩
end
/-- the tuple at a, each item in a new pair with its number -/
def Itu (K : PySem.W.Frag) (a : Addr) : It where
  go i H := ∃ (xs : List V) (x : V), SqT K H a xs ∧ xs[i]? = some x
  yld i H v H' := ∃ T x, v = .ref T ∧ H T = none ∧ H' = upd H T (.tup [.int (i : Nat), x]) ∧ ∀ xs, SqT K H a xs → xs[i]? = some x
  stop i H := ∃ xs : List V, SqT K H a xs ∧ xs.length = i
def EnumAt (e it a : Addr) (i : Nat) (h : Heap) : Prop := (∃ old, IsEnum h e it ((i : Nat) : Int) old) ∧ h.IsTupleIter it a i ∧ e ≠ it
theorem turn_enumT {P : Program} {w : World} {K : PySem.W.Frag} {elts : List Expr} {kk : Nat} {tpos : Pos} (a e it : Addr) (hae : a ≠ e) (hai : a ≠ it) :
    Turn P w K (.Tuple elts kk tpos) (Itu K a) [e, it] e (EnumAt e it a) where
  mem := by simp
  obj := fun i h st b hb => by
    obtain ⟨⟨old, he⟩, ⟨o, ho, hc, hd⟩, _⟩ := st
    rcases List.mem_cons.mp hb with z | z
    · rw [z]; exact ⟨_, he, fun v q => nomatch q⟩
    · rw [List.mem_singleton.mp z]; exact ⟨o, ho, fun v q => by rw [hd] at q; cases q⟩
  keep := fun i h h' st k => by
    obtain ⟨⟨old, he⟩, hi, hne⟩ := st
    exact ⟨⟨old, k e (by simp) _ he⟩, hi.at fun o q => k it (by simp) o q, hne⟩
  item := by
    intro X hP hw hK hc i pins s σ H E I hf st hg
    subst hP hw hK
    obtain ⟨⟨old, he⟩, hit, hne⟩ := st
    obtain ⟨xs, x, hq, hx⟩ := hg
    obtain ⟨its, rv, p, hz⟩ := I.tuple hq
    obtain ⟨u, hu, ru⟩ := rv.get hx
    have helt : e < s.heap.objs.size := Heap.lt_size he
    have hilt : it < s.heap.objs.size := by
      obtain ⟨_, q, _⟩ := hit
      exact Heap.lt_size q
    have hlt : i < its.toArray.size := by
      rw [List.size_toArray]
      exact (List.getElem?_eq_some_iff.mp hu).1
    have hef : e ∉ [it, a] := by
      intro z
      rcases List.mem_cons.mp z with q | q
      · exact hne q
      · exact hae (List.mem_singleton.mp q).symm
    refine wpAny_pyNext_enum_itemD (Draws.tuple (A := X.A.in1) (I.ok.hd hc) it a hai its.toArray) he ⟨hit, p⟩ hlt hne hef fun y h' tk hy ho hst' hT hsz hk => ?_
    have hy' : y = u := by
      have z : its.toArray[i]? = some u := by simpa using hu
      exact Option.some.inj (hy.symm.trans z)
    subst hy'
    refine ⟨_, rfl, wpAny_letOwnedTupleGo_enum (s := { s with heap := h', toks := tk + 1 }) ho fun h'' he' sb => ?_⟩
    have hT2 : h''.get? s.heap.objs.size = some { cls := .type "tuple", data := .seq #[.int i tk, y] } :=
      (sb.2 _ (Nat.ne_of_gt helt)).trans hT
    have new : ObjOk X.prog X.w (upd H s.heap.objs.size (.tup [.int (i : Nat), x])) h'' s.heap.objs.size (.tup [.int (i : Nat), x]) :=
      ⟨(by decide : 2 ≤ sizeLine), [.int i tk, y], .cons ⟨_, rfl⟩ (.cons ru .nil), _, hT2, rfl, _, rfl⟩
    have I1 : Inv X pins σ (upd H s.heap.objs.size (.tup [.int (i : Nat), x])) { s with heap := h'', toks := tk + 1 } :=
      I.turnedNew (ch := [e, it])
        (fun b ob hb q => (sb.2 b (fun z => hb (by simp [z]))).trans (hk b ob (fun z => hb (by simp [z])) (fun z => hb (by simp [z])) q)) hf (Nat.le_refl _) new
    refine ⟨.ref s.heap.objs.size, _, I1, rfl, ⟨_, x, rfl, I.hok.fresh (Nat.le_refl _), rfl, fun ys hy => by rw [I.tuple_inj hy hq]; exact hx⟩,
      ⟨⟨y, ?_⟩, hst'.1.at fun o q => (sb.2 it (Ne.symm hne)).trans q, hne⟩, fun b hb => ?_⟩
    · rw [show ((i + 1 : Nat) : Int) = (i : Int) + 1 by omega]
      exact he'
    · have hlt : b < s.heap.objs.size := by
        rcases List.mem_cons.mp hb with z | z
        · rw [z]; exact helt
        · rw [List.mem_singleton.mp z]; exact hilt
      rw [upd_ne (Nat.ne_of_lt hlt)]
      exact (hf b hb).1
  done := by
    intro X hP hw hK hc i pins s σ H E I hf st hg
    subst hP hw hK
    obtain ⟨⟨old, he⟩, hit, hne⟩ := st
    obtain ⟨xs, hq, hx⟩ := hg
    obtain ⟨its, rv, p, hz⟩ := I.tuple hq
    obtain ⟨f0, f1, f2, f3, f4, f5⟩ := hf it (by simp)
    have hl : its.toArray.size = i := by rw [List.size_toArray, ← rv.length, hx]
    have st : its.toArray.size = i → (s.heap.IsTupleIter it a its.toArray.size ∧ s.heap.IsTuple a its.toArray) := fun z => ⟨z ▸ hit, p⟩
    refine wpAny_pyNext_enum_endD (Draws.tuple (A := X.A.in1) (I.ok.hd hc) it a hai its.toArray) he (st hl) fun h' eb => ⟨rfl, ?_⟩
    exact I.turned (t' := s.toks) (fun b o hb q => eb b o hb q) f0 f1 f3 f4 f5
  self := fun A i s Q E st h => by
    obtain ⟨⟨_, he⟩, _⟩ := st
    exact wpAny_pyIter_enum he h
def iEnumT (K : PySem.W.Frag) (ta : TA) : TI := fun σ H R => ta σ H fun vs H1 => ∃ a xs, vs = [.ref a] ∧ SqT K H1 a xs ∧ R (Itu K a) H1
theorem pi_enumT {X : Cx} {e : Expr} {ta : TA} {p pos tpos : Pos} {elts : List Expr} {kk : Nat} (hg : Gl X "enumerate") (hm : X.mg "enumerate" = none) (ha : PA X [e] ta)
    (hs : starEach [e] X.env = [(false, eval e X.env)] := by rfl) : PI X (.Tuple elts kk tpos) (.Call (.Name "enumerate" p) [e] [] pos) (iEnumT X.K ta) := by
  refine ⟨fun pins s σ H R I h => Call_ (ld_blt I hg hm boot_enumerate (PyProof.Rows.callWith_type1 ?_ hs rfl))⟩
  refine thn (ha.run pos pins s σ H _ I h) fun us s1 ⟨vs, H1, I1, r1, a, xs, ex, hq, q⟩ => ?_
  subst ex
  obtain ⟨u, rfl, ru⟩ := vals1 r1
  obtain rfl : u = Value.ref a := ru
  obtain ⟨its, rv, p', hz⟩ := I1.tuple hq
  have hlt : a < s1.heap.objs.size := (by obtain ⟨o, ho, _⟩ := p'; exact Heap.lt_size ho)
  refine enum_call1 (begins_tuple a its.toArray) p' fun h' he hit hk => wpAny_pyIter_enum he ?_
  have I2 : Inv X pins σ H1 { s1 with heap := h' } := I1.kept (t' := s1.toks) hk
  refine ⟨s1.heap.objs.size + 1, [s1.heap.objs.size + 1, s1.heap.objs.size], _, _, H1, rfl, I2,
    turn_enumT a (s1.heap.objs.size + 1) s1.heap.objs.size (Nat.ne_of_lt (Nat.lt_succ_of_lt hlt)) (Nat.ne_of_lt hlt), ⟨⟨.none, he⟩, ⟨_, hit, rfl, rfl⟩, Nat.succ_ne_self _⟩, fun b hb => ?_, q⟩
  have hle : s1.heap.objs.size ≤ b := by
    rcases List.mem_cons.mp hb with z | z
    · rw [z]; exact Nat.le_add_right _ _
    · rw [List.mem_singleton.mp z]; exact Nat.le_refl _
  exact I1.fpOk hle (I1.hok.fresh hle)
end My

/-! rules within a comprehension: the written part by its own name -/
namespace My
open PySem PySem.Spec PyProof.Rows L2
section
variable {X : Cx}
theorem pg_tupK {K : PySem.W.Frag} {es : List Expr} {k : Nat} {pos : Pos} {t : TGs} {n : Nat} (hc : X.calm = true) (h : PGs X es t) (hK : X.K = K := by rfl)
    (hn : (assignEach es X.env).length = n := by rfl) (hst : (assignEach es X.env).findIdx? (·.1) = none := by rfl) : PG X (.Tuple es k pos) (gTup K n t) := by
  subst hK
  exact pg_tup hc h hn hst
theorem call_reprK {K : PySem.W.Frag} (hg : X.A.guards = some []) (hu : X.A.units + 64 < cLine) (h : X.K = K := by rfl) : CallR X (.builtin "repr") (rRepr K) := by
  subst h
  exact call_repr hg hu
variable {o e : Expr} {es : List Expr} {to : TE} {t : TA} {name : Str} {apos cpos : Pos} {T id : String} {r : V → List V → Hp → VK → Prop}
theorem pe_bmK {K : PySem.W.Frag} (pa : PlainAttrs T) (slot : Slot T name id) (hty : typeOf (.builtin id) = pure (.type "method_descriptor")) (hm : MtR X id r) (ho : PE X o to) (ha : PA X (e :: es) t) (hK : X.K = K := by rfl)
    (hbase : attributeBase o name X.env (eval o X.env) = eval o X.env := by rfl)
    (hfew : ((backTo cpos (starEach (e :: es) X.env)).all (fun x => !x.1) && (backToKw cpos (keywordEach [] X.env)).all (fun x => x.1.isSome)
      && decide ((e :: es).length + ([] : List Keyword).length + (if ([] : List Keyword).isEmpty then 0 else 1) < 30)) = true := by rfl)
    (hline : (apos.endLine == cpos.line) = true := by rfl) (hs : starEach (e :: es) X.env = (false, eval e X.env) :: starEach es X.env := by rfl) (hplain : (backTo cpos (starEach es X.env)).any (·.1) = false := by rfl) :
    PE X (.Call (.Attribute o name apos) (e :: es) [] cpos) (tBM K T r to t) := by
  subst hK
  exact pe_bm pa slot hty hm ho ha hbase hfew hline hs hplain
end
end My

/-! texts of numbers, of rows of words -/
namespace My
open PySem PySem.Spec PyProof.Rows L2
/-- a number's text -/
def sI (n : Int) : Str := Str.ofString (toString n)
theorem tl_pos (k : Nat) : TL.tl (sI (k : Int)) = TL.numL k := TL.tl_num k
theorem tl_neg (k : Nat) : TL.tl (sI (-((k : Int) + 1))) = 45 :: TL.numL (k + 1) := by
  have e : (-((k : Int) + 1)) = Int.negSucc k := by omega
  unfold sI
  rw [e, TL.tl_ofString, Int.toString_eq_repr, Int.repr_eq_if, if_neg (by omega)]
  have e2 : (Int.negSucc k).natAbs = k + 1 := rfl
  rw [show (-(Int.negSucc k)).toNat = k + 1 by omega, String.toList_append, Nat.toList_repr, List.map_append]
  rfl
/-- the signs of a number's text -/
theorem sI_cases (n : Int) : (0 ≤ n ∧ TL.tl (sI n) = TL.numL n.toNat) ∨ (n < 0 ∧ TL.tl (sI n) = 45 :: TL.numL (-n).toNat) := by
  by_cases h : 0 ≤ n
  · refine .inl ⟨h, ?_⟩
    obtain ⟨k, rfl⟩ : ∃ k : Nat, n = (k : Int) := ⟨n.toNat, by omega⟩
    rw [tl_pos, Int.toNat_natCast]
  · refine .inr ⟨by omega, ?_⟩
    obtain ⟨k, rfl⟩ : ∃ k : Nat, n = -((k : Int) + 1) := ⟨(-n - 1).toNat, by omega⟩
    rw [tl_neg, show (-(-((k : Int) + 1))).toNat = k + 1 by omega]
theorem sI_free {n : Int} {s : Nat} (h : s ≠ 45) (h2 : s < 48 ∨ 57 < s) : s ∉ TL.tl (sI n) := by
  rcases sI_cases n with ⟨_, e⟩ | ⟨_, e⟩
  · rw [e]; exact TL.numL_free h2
  · rw [e]
    intro hm
    rcases List.mem_cons.mp hm with z | z
    · exact h z
    · exact TL.numL_free h2 z
theorem sI_ne (n : Int) : TL.tl (sI n) ≠ [] := by
  rcases sI_cases n with ⟨_, e⟩ | ⟨_, e⟩
  · rw [e]; exact TL.numL_ne _
  · rw [e]; exact List.cons_ne_nil _ _
theorem numL_5 {k : Nat} (h : k < 100000) : (TL.numL k).length ≤ 5 := TL.numL_len (by decide) h
theorem numL_pos (k : Nat) : 1 ≤ (TL.numL k).length := List.length_pos_iff.mpr (TL.numL_ne k)
theorem sI_len {n : Int} (h : n.natAbs < 100000) : (sI n).length ≤ 6 := by
  rw [TL.len_tl]
  rcases sI_cases n with ⟨_, e⟩ | ⟨_, e⟩
  · rw [e]
    have := numL_5 (k := n.toNat) (by omega)
    omega
  · rw [e]
    have := numL_5 (k := (-n).toNat) (by omega)
    rw [List.length_cons]
    omega
theorem sI_int {n : Int} (h : n.natAbs < 100000) : intText? (sI n) = some n := by
  rcases sI_cases n with ⟨h0, e⟩ | ⟨h0, e⟩
  · have z := PySem.intText_digits (x := sI n) (by rw [show (sI n).cps.toList = _ from e]; exact TL.numL_digits _) (by rw [show (sI n).cps.toList = _ from e]; exact TL.numL_ne _) (by have := sI_len h; omega)
    rw [show (sI n).cps.toList = _ from e, TL.numL_val] at z
    rw [z]
    congr 1
    omega
  · have z := PySem.intText_neg (x := sI n) e (TL.numL_digits _) (TL.numL_ne _) (by have := sI_len h; omega)
    rw [TL.numL_val] at z
    rw [z]
    congr 1
    omega
/-- the first sign is 0 of 0 alone -/
theorem numL_head : ∀ k : Nat, 0 < k → ∃ c r, TL.numL k = c :: r ∧ c ≠ 48 := by
  intro k
  induction k using Nat.strongRecOn with
  | _ k ih =>
    intro h
    by_cases h1 : k < 10
    · rw [TL.numL_lt h1]
      exact ⟨_, [], rfl, by omega⟩
    · obtain ⟨c, r, e, hc⟩ := ih (k / 10) (by omega) (by omega)
      rw [TL.numL_step (by omega), e]
      exact ⟨c, _, rfl, hc⟩
theorem sw_minus (x : Str) : Txt.startswith x "-" = (match TL.tl x with | c :: _ => decide (c = 45) | [] => false) := by
  unfold Txt.startswith
  have e1 : ("-" : Str).length = 1 := by decide +kernel
  have e2 : ("-" : Str).cps = #[45] := by decide +kernel
  unfold PySem.Builtin.Str.subAt
  rw [e1, e2]
  obtain ⟨⟨l⟩⟩ := x
  cases l with
  | nil => rfl
  | cons c r =>
    show (decide (0 + 1 ≤ (⟨(c :: r).toArray⟩ : Str).length) && ((c :: r).toArray.extract 0 1 == #[45])) = decide (c = 45)
    have a : decide (0 + 1 ≤ (⟨(c :: r).toArray⟩ : Str).length) = true := decide_eq_true (by show 1 ≤ (c :: r).toArray.size; rw [List.size_toArray, List.length_cons]; omega)
    rw [a, Bool.true_and]
    have b : (c :: r).toArray.extract 0 1 = #[c] := by simp
    rw [b]
    by_cases h : c = 45
    · subst h; rfl
    · rw [decide_eq_false h]
      simpa using h
theorem sI_sw (n : Int) : Txt.startswith (sI n) "-" = decide (n < 0) := by
  rw [sw_minus]
  rcases sI_cases n with ⟨h, e⟩ | ⟨h, e⟩
  · rw [e, decide_eq_false (by omega)]
    cases hc : TL.numL n.toNat with
    | nil => rfl
    | cons c r =>
      have := TL.numL_digits n.toNat c (by rw [hc]; exact List.mem_cons_self)
      show decide (c = 45) = false
      exact decide_eq_false (by omega)
  · rw [e, decide_eq_true h]
    rfl
/-! ### rows of words -/
def rowT (ws : List Str) : Str := Txt.join " " ws
def textT (rows : List Str) : Str := Txt.join "\n" rows
theorem tl_blank : TL.tl " " = [32] := by decide +kernel
theorem tl_lf : TL.tl "\n" = [10] := by decide +kernel
theorem split_row {ws : List Str} (hne : ws ≠ []) (h : ∀ w ∈ ws, 32 ∉ TL.tl w) : Txt.split (rowT ws) " " = ws := TL.split_join tl_blank (by decide +kernel) hne h
theorem split_text {rows : List Str} (hne : rows ≠ []) (h : ∀ w ∈ rows, 10 ∉ TL.tl w) : Txt.split (textT rows) "\n" = rows := TL.split_join tl_lf (by decide +kernel) hne h
theorem tl_row (ws : List Str) : TL.tl (rowT ws) = TL.joinL [32] (ws.map TL.tl) := by
  unfold rowT
  rw [TL.join_eq, TL.tl_join, tl_blank]
theorem joinL_mem {y : List Nat} {s : Nat} : ∀ {ps : List (List Nat)}, s ∈ TL.joinL y ps → s ∈ y ∨ ∃ p ∈ ps, s ∈ p
  | [], h => by cases h
  | [p], h => .inr ⟨p, List.mem_cons_self, h⟩
  | p :: q :: r, h => by
    rcases List.mem_append.mp (show s ∈ p ++ (y ++ TL.joinL y (q :: r)) from h) with h | h
    · exact .inr ⟨p, List.mem_cons_self, h⟩
    rcases List.mem_append.mp h with h | h
    · exact .inl h
    · rcases joinL_mem h with h | ⟨p', hp, h⟩
      · exact .inl h
      · exact .inr ⟨p', List.mem_cons_of_mem _ hp, h⟩
theorem row_lf {ws : List Str} (h : ∀ w ∈ ws, 10 ∉ TL.tl w) : 10 ∉ TL.tl (rowT ws) := by
  rw [tl_row]
  intro hm
  rcases joinL_mem hm with z | ⟨p, hp, z⟩
  · exact absurd z (by decide)
  · obtain ⟨w, hw, rfl⟩ := List.mem_map.mp hp
    exact h w hw z
theorem joinL_len {y : List Nat} {k : Nat} : ∀ {ps : List (List Nat)}, (∀ p ∈ ps, p.length ≤ k) → (TL.joinL y ps).length ≤ ps.length * (k + y.length)
  | [], _ => Nat.zero_le _
  | [p], h => by
    have := h p List.mem_cons_self
    show p.length ≤ 1 * _
    omega
  | p :: q :: r, h => by
    have h1 := h p List.mem_cons_self
    have h2 := joinL_len (y := y) (ps := q :: r) fun z hz => h z (List.mem_cons_of_mem _ hz)
    show (p ++ (y ++ TL.joinL y (q :: r))).length ≤ (r.length + 1 + 1) * _
    rw [List.length_append, List.length_append, Nat.succ_mul]
    have h2 : (TL.joinL y (q :: r)).length ≤ (r.length + 1) * (k + y.length) := h2
    omega
theorem row_len {ws : List Str} {k : Nat} (h : ∀ w ∈ ws, w.length ≤ k) : (rowT ws).length ≤ ws.length * (k + 1) := by
  rw [TL.len_tl, tl_row]
  have := joinL_len (y := [32]) (k := k) (ps := ws.map TL.tl) fun p hp => by
    obtain ⟨w, hw, rfl⟩ := List.mem_map.mp hp
    rw [← TL.len_tl]
    exact h w hw
  rw [List.length_map] at this
  exact this
theorem text_len {ws : List Str} {k : Nat} (h : ∀ w ∈ ws, w.length ≤ k) : (textT ws).length ≤ ws.length * (k + 1) := by
  unfold textT
  rw [TL.join_eq, TL.len_tl, TL.tl_join, tl_lf]
  have := joinL_len (y := [10]) (k := k) (ps := ws.map TL.tl) fun p hp => by
    obtain ⟨w, hw, rfl⟩ := List.mem_map.mp hp
    rw [← TL.len_tl]
    exact h w hw
  rw [List.length_map] at this
  exact this
theorem sum_len {ws : List Str} {k : Nat} (h : ∀ w ∈ ws, w.length ≤ k) : (ws.map (·.length)).sum ≤ ws.length * k := by
  induction ws with
  | nil => exact Nat.zero_le _
  | cons w r ih =>
    rw [List.map_cons, List.sum_cons, List.length_cons, Nat.succ_mul]
    have := h w List.mem_cons_self
    have := ih fun x hx => h x (List.mem_cons_of_mem _ hx)
    omega
/-! ### the rows of a coder's text -/
theorem log_ok {n : Int} (h : n.natAbs < 100000) : n.natAbs.log2 < 1920 := by
  have h2 : n.natAbs < 2 ^ 64 := by omega
  exact Nat.lt_trans (PySem.Flt.log2_lt_of (by decide) h2) (by decide)
theorem tl_empty : TL.tl Str.empty = [] := rfl
theorem row_pre {w u : Str} (e : TL.tl u = TL.tl w ++ [32]) {ws : List Str} (h : ws ≠ []) : u ++ rowT ws = rowT (w :: ws) := by
  refine TL.ext_tl ?_
  rw [TL.tl_append, tl_row, tl_row, e]
  cases ws with
  | nil => exact absurd rfl h
  | cons v r =>
    show (TL.tl w ++ [32]) ++ TL.joinL [32] (TL.tl v :: r.map TL.tl) = TL.tl w ++ ([32] ++ TL.joinL [32] (TL.tl v :: r.map TL.tl))
    rw [List.append_assoc]
theorem empty_pre (x : Str) : Str.empty ++ x = x := TL.ext_tl (by rw [TL.tl_append, tl_empty]; rfl)
theorem row_one (x : Str) : rowT [x] = x := TL.ext_tl (by rw [tl_row]; rfl)
theorem row_end {x y : Str} (ws : List Str) (z : Str) (hy : TL.tl y = [32]) (h : x = rowT ws) (hne : ws ≠ []) : (x ++ y) ++ z = rowT (ws ++ [z]) := by
  subst h
  refine TL.ext_tl ?_
  rw [TL.tl_append, TL.tl_append, tl_row, tl_row, hy]
  induction ws with
  | nil => exact absurd rfl hne
  | cons v r ih =>
    cases r with
    | nil =>
      show (TL.tl v ++ [32]) ++ TL.tl z = TL.tl v ++ ([32] ++ TL.tl z)
      rw [List.append_assoc]
    | cons u r =>
      have ih := ih (List.cons_ne_nil _ _)
      show ((TL.tl v ++ ([32] ++ TL.joinL [32] (TL.tl u :: r.map TL.tl))) ++ [32]) ++ TL.tl z = TL.tl v ++ ([32] ++ TL.joinL [32] ((u :: r ++ [z]).map TL.tl))
      rw [← ih]
      simp only [List.append_assoc, List.map_cons]
theorem pre_levels : TL.tl "levels " = TL.tl "levels" ++ [32] := by decide +kernel
theorem pre_steps : TL.tl "steps " = TL.tl "steps" ++ [32] := by decide +kernel
theorem pre_move : TL.tl "move " = TL.tl "move" ++ [32] := by decide +kernel
def levW (a b c : Int) : List Str := ["levels", sI a, sI b, sI c]
def stepW (ss : List Int) : List Str := "steps" :: ss.map sI
def movW (p : Int × Int) : List Str := ["move", sI p.1, sI p.2]
theorem lev_f (a b c : Int) : (((((Str.empty ++ "levels ") ++ sI a) ++ " ") ++ sI b) ++ " ") ++ sI c = rowT (levW a b c) := by
  have h1 : (Str.empty ++ "levels ") ++ sI a = rowT ["levels", sI a] := by
    rw [empty_pre, ← row_one (sI a), row_pre pre_levels (by simp), row_one]
  exact row_end ["levels", sI a, sI b] _ tl_blank (row_end ["levels", sI a] _ tl_blank h1 (by simp)) (by simp)
theorem lev_l (a b c : Int) : ("levels " : Str) ++ rowT [sI a, sI b, sI c] = rowT (levW a b c) := row_pre pre_levels (by simp)
theorem step_l {ss : List Int} (h : ss ≠ []) : ("steps " : Str) ++ rowT (ss.map sI) = rowT (stepW ss) := row_pre pre_steps (fun z => h (List.map_eq_nil_iff.mp z))
theorem step_f {ss : List Int} (h : ss ≠ []) : (Str.empty ++ "steps ") ++ rowT (ss.map sI) = rowT (stepW ss) := by rw [empty_pre]; exact step_l h
theorem mov_l (p : Int × Int) : ((("move " : Str) ++ sI p.1) ++ " ") ++ sI p.2 = rowT (movW p) := by
  have h1 : ("move " : Str) ++ sI p.1 = rowT ["move", sI p.1] := by
    rw [← row_one (sI p.1), row_pre pre_move (by simp), row_one]
  exact row_end ["move", sI p.1] _ tl_blank h1 (by simp)
theorem mov_f (p : Int × Int) : (((Str.empty ++ "move ") ++ sI p.1) ++ " ") ++ sI p.2 = rowT (movW p) := by rw [empty_pre]; exact mov_l p
theorem app_len {a b : Str} {i j : Nat} (ha : a.length ≤ i) (hb : b.length ≤ j) : (a ++ b).length ≤ i + j := by
  rw [strLen_append]
  omega
theorem line_of {a : Str} {i : Nat} (ha : a.length ≤ i) (h : i ≤ 1000000) : a.length ≤ sizeLine := Nat.le_trans (Nat.le_trans ha h) (by decide)
theorem len_e : (Str.empty : Str).length ≤ 0 := Nat.le_refl _
theorem len_b : (" " : Str).length ≤ 1 := by decide +kernel
theorem len_levels : ("levels " : Str).length ≤ 7 := by decide +kernel
theorem len_steps : ("steps " : Str).length ≤ 6 := by decide +kernel
theorem len_move : ("move " : Str).length ≤ 5 := by decide +kernel
theorem words_len {ws : List Int} (h : ∀ n ∈ ws, n.natAbs < 100000) : ∀ w ∈ ws.map sI, w.length ≤ 6 := fun w hw => by
  obtain ⟨n, hn, rfl⟩ := List.mem_map.mp hw
  exact sI_len (h n hn)
/-- an f-string of several parts, by a name -/
def tJoin (ts : List TE) : TE := fun σ H Q => tJs ts Str.empty σ H fun out H1 => Q (.str out) H1
theorem pe_joinedN {X : Cx} {v1 v2 : Expr} {rest : List Expr} {ts : List TE} {pos : Pos} (h : PJ X (v1 :: v2 :: rest) ts) : PE X (.JoinedStr (v1 :: v2 :: rest) pos) (tJoin ts) := pe_joined h
end My

namespace My
open PySem PySem.Spec PyProof.Rows L2
def top (i : Nat) : Stmt := PySem.Challenge.pw_stepsound_k25_whole_texts_of_coders.main.body.getD i (.Pass ⟨0, 0, 0, 0⟩)
abbrev s_is_integer : Stmt := top 4
abbrev s_is_between : Stmt := top 5
abbrev s_is_pair : Stmt := top 6
abbrev s_need_coder : Stmt := top 8
abbrev s_first_fault : Stmt := top 9
abbrev s_fault_of_steps : Stmt := top 10
abbrev s_fault_of_moves : Stmt := top 11
abbrev s_is_tuple_of : Stmt := top 12
abbrev s_is_move : Stmt := top 13
abbrev s_is_fade : Stmt := top 14
abbrev s_coder_text : Stmt := top 17
abbrev s_read_coder : Stmt := top 18
abbrev s_spaced : Stmt := top 19
abbrev s_need_text : Stmt := top 20
abbrev s_need_no_empty_word : Stmt := top 21
abbrev s_need_coder_row : Stmt := top 22
abbrev s_need_row_form : Stmt := top 23
abbrev s_is_number : Stmt := top 24
abbrev s_numbers_of : Stmt := top 25
abbrev s_law_begun : Stmt := top 27
abbrev s_law_next : Stmt := top 28
abbrev s_law_wide : Stmt := top 29
abbrev s_law_text : Stmt := top 30
abbrev s_law : Stmt := top 31
theorem sc_is_integer : FnScope ["thing"] ["thing"] (defScope s_is_integer) := ⟨rfl, rfl, rfl, by decide +kernel, rfl, by decide +kernel, by decide +kernel⟩
theorem sc_is_between : FnScope ["thing", "least", "most"] ["thing", "least", "most"] (defScope s_is_between) := ⟨rfl, rfl, rfl, by decide +kernel, rfl, by decide +kernel, by decide +kernel⟩
theorem sc_is_pair : FnScope ["thing"] ["thing"] (defScope s_is_pair) := ⟨rfl, rfl, rfl, by decide +kernel, rfl, by decide +kernel, by decide +kernel⟩
theorem sc_need_coder : FnScope ["thing", "fault"] ["thing"] (defScope s_need_coder) := ⟨rfl, rfl, rfl, by decide +kernel, rfl, by decide +kernel, by decide +kernel⟩
theorem sc_first_fault : FnScope ["thing", "low", "high", "steps", "moves", "fade", "fault"] ["thing"] (defScope s_first_fault) := ⟨rfl, rfl, rfl, by decide +kernel, rfl, by decide +kernel, by decide +kernel⟩
theorem sc_fault_of_steps : FnScope ["steps", "index", "step"] ["steps"] (defScope s_fault_of_steps) := ⟨rfl, rfl, rfl, by decide +kernel, rfl, by decide +kernel, by decide +kernel⟩
theorem sc_fault_of_moves : FnScope ["moves", "index", "move"] ["moves"] (defScope s_fault_of_moves) := ⟨rfl, rfl, rfl, by decide +kernel, rfl, by decide +kernel, by decide +kernel⟩
theorem sc_is_tuple_of : FnScope ["thing", "least", "most"] ["thing", "least", "most"] (defScope s_is_tuple_of) := ⟨rfl, rfl, rfl, by decide +kernel, rfl, by decide +kernel, by decide +kernel⟩
theorem sc_is_move : FnScope ["thing"] ["thing"] (defScope s_is_move) := ⟨rfl, rfl, rfl, by decide +kernel, rfl, by decide +kernel, by decide +kernel⟩
theorem sc_is_fade : FnScope ["thing"] ["thing"] (defScope s_is_fade) := ⟨rfl, rfl, rfl, by decide +kernel, rfl, by decide +kernel, by decide +kernel⟩
theorem sc_coder_text : FnScope ["coder", "low", "high", "steps", "moves", "fade", "rows", "share", "turn"] ["coder"] (defScope s_coder_text) := ⟨rfl, rfl, rfl, by decide +kernel, rfl, by decide +kernel, by decide +kernel⟩
theorem sc_read_coder : FnScope ["text", "rows", "index", "words", "low", "high", "fade", "steps", "moves", "row"] ["text"] (defScope s_read_coder) := ⟨rfl, rfl, rfl, by decide +kernel, rfl, by decide +kernel, by decide +kernel⟩
theorem sc_spaced : FnScope ["numbers", "number"] ["numbers"] (defScope s_spaced) := ⟨rfl, rfl, rfl, by decide +kernel, rfl, by decide +kernel, by decide +kernel⟩
theorem sc_need_text : FnScope ["thing"] ["thing"] (defScope s_need_text) := ⟨rfl, rfl, rfl, by decide +kernel, rfl, by decide +kernel, by decide +kernel⟩
theorem sc_need_no_empty_word : FnScope ["row", "words"] ["row", "words"] (defScope s_need_no_empty_word) := ⟨rfl, rfl, rfl, by decide +kernel, rfl, by decide +kernel, by decide +kernel⟩
theorem sc_need_coder_row : FnScope ["index", "words"] ["index", "words"] (defScope s_need_coder_row) := ⟨rfl, rfl, rfl, by decide +kernel, rfl, by decide +kernel, by decide +kernel⟩
theorem sc_need_row_form : FnScope ["row", "words", "name", "least", "most", "index"] ["row", "words", "name", "least", "most"] (defScope s_need_row_form) := ⟨rfl, rfl, rfl, by decide +kernel, rfl, by decide +kernel, by decide +kernel⟩
theorem sc_is_number : FnScope ["word", "digits", "sign"] ["word"] (defScope s_is_number) := ⟨rfl, rfl, rfl, by decide +kernel, rfl, by decide +kernel, by decide +kernel⟩
theorem sc_numbers_of : FnScope ["words", "word"] ["words"] (defScope s_numbers_of) := ⟨rfl, rfl, rfl, by decide +kernel, rfl, by decide +kernel, by decide +kernel⟩
theorem sc_law_begun : FnScope ["script", "cell"] ["script"] (defScope s_law_begun) := ⟨rfl, rfl, rfl, by decide +kernel, rfl, by decide +kernel, by decide +kernel⟩
theorem sc_law_next : FnScope ["m", "many", "rest", "k", "cell", "mixed"] ["m", "many"] (defScope s_law_next) := ⟨rfl, rfl, rfl, by decide +kernel, rfl, by decide +kernel, by decide +kernel⟩
theorem sc_law_wide : FnScope ["m", "low", "high", "k", "steps", "moves", "fade"] ["m"] (defScope s_law_wide) := ⟨rfl, rfl, rfl, by decide +kernel, rfl, by decide +kernel, by decide +kernel⟩
theorem sc_law_text : FnScope ["coder", "rows", "share", "turn", "step"] ["coder"] (defScope s_law_text) := ⟨rfl, rfl, rfl, by decide +kernel, rfl, by decide +kernel, by decide +kernel⟩
theorem sc_law : FnScope ["script", "m", "turn", "coder"] ["script"] (defScope s_law) := ⟨rfl, rfl, rfl, by decide +kernel, rfl, by decide +kernel, by decide +kernel⟩
structure Txt0 (K : PySem.W.Frag) (mg : Str → Option Value) where
  f_is_integer : Addr
  d_is_integer : FuncData
  F_is_integer : Fun K "is_integer" "is_integer" s_is_integer f_is_integer d_is_integer
  b_is_integer : Binds K d_is_integer ["thing"] []
  g_is_integer : mg "is_integer" = some (.ref f_is_integer)
  f_is_between : Addr
  d_is_between : FuncData
  F_is_between : Fun K "is_between" "is_between" s_is_between f_is_between d_is_between
  b_is_between : Binds K d_is_between ["thing", "least", "most"] []
  g_is_between : mg "is_between" = some (.ref f_is_between)
  f_is_pair : Addr
  d_is_pair : FuncData
  F_is_pair : Fun K "is_pair" "is_pair" s_is_pair f_is_pair d_is_pair
  b_is_pair : Binds K d_is_pair ["thing"] []
  g_is_pair : mg "is_pair" = some (.ref f_is_pair)
  f_need_coder : Addr
  d_need_coder : FuncData
  F_need_coder : Fun K "need_coder" "need_coder" s_need_coder f_need_coder d_need_coder
  b_need_coder : Binds K d_need_coder ["thing"] []
  g_need_coder : mg "need_coder" = some (.ref f_need_coder)
  f__first_fault : Addr
  d__first_fault : FuncData
  F__first_fault : Fun K "_first_fault" "_first_fault" s_first_fault f__first_fault d__first_fault
  b__first_fault : Binds K d__first_fault ["thing"] []
  g__first_fault : mg "_first_fault" = some (.ref f__first_fault)
  f__fault_of_steps : Addr
  d__fault_of_steps : FuncData
  F__fault_of_steps : Fun K "_fault_of_steps" "_fault_of_steps" s_fault_of_steps f__fault_of_steps d__fault_of_steps
  b__fault_of_steps : Binds K d__fault_of_steps ["steps"] []
  g__fault_of_steps : mg "_fault_of_steps" = some (.ref f__fault_of_steps)
  f__fault_of_moves : Addr
  d__fault_of_moves : FuncData
  F__fault_of_moves : Fun K "_fault_of_moves" "_fault_of_moves" s_fault_of_moves f__fault_of_moves d__fault_of_moves
  b__fault_of_moves : Binds K d__fault_of_moves ["moves"] []
  g__fault_of_moves : mg "_fault_of_moves" = some (.ref f__fault_of_moves)
  f__is_tuple_of : Addr
  d__is_tuple_of : FuncData
  F__is_tuple_of : Fun K "_is_tuple_of" "_is_tuple_of" s_is_tuple_of f__is_tuple_of d__is_tuple_of
  b__is_tuple_of : Binds K d__is_tuple_of ["thing", "least", "most"] []
  g__is_tuple_of : mg "_is_tuple_of" = some (.ref f__is_tuple_of)
  f__is_move : Addr
  d__is_move : FuncData
  F__is_move : Fun K "_is_move" "_is_move" s_is_move f__is_move d__is_move
  b__is_move : Binds K d__is_move ["thing"] []
  g__is_move : mg "_is_move" = some (.ref f__is_move)
  f__is_fade : Addr
  d__is_fade : FuncData
  F__is_fade : Fun K "_is_fade" "_is_fade" s_is_fade f__is_fade d__is_fade
  b__is_fade : Binds K d__is_fade ["thing"] []
  g__is_fade : mg "_is_fade" = some (.ref f__is_fade)
structure Txt1 (K : PySem.W.Frag) (mg : Str → Option Value) extends Txt0 K mg where
  f_coder_text : Addr
  d_coder_text : FuncData
  F_coder_text : Fun K "coder_text" "coder_text" s_coder_text f_coder_text d_coder_text
  b_coder_text : Binds K d_coder_text ["coder"] []
  g_coder_text : mg "coder_text" = some (.ref f_coder_text)
  f_read_coder : Addr
  d_read_coder : FuncData
  F_read_coder : Fun K "read_coder" "read_coder" s_read_coder f_read_coder d_read_coder
  b_read_coder : Binds K d_read_coder ["text"] []
  g_read_coder : mg "read_coder" = some (.ref f_read_coder)
  f__spaced : Addr
  d__spaced : FuncData
  F__spaced : Fun K "_spaced" "_spaced" s_spaced f__spaced d__spaced
  b__spaced : Binds K d__spaced ["numbers"] []
  g__spaced : mg "_spaced" = some (.ref f__spaced)
  f__need_text : Addr
  d__need_text : FuncData
  F__need_text : Fun K "_need_text" "_need_text" s_need_text f__need_text d__need_text
  b__need_text : Binds K d__need_text ["thing"] []
  g__need_text : mg "_need_text" = some (.ref f__need_text)
  f__need_no_empty_word : Addr
  d__need_no_empty_word : FuncData
  F__need_no_empty_word : Fun K "_need_no_empty_word" "_need_no_empty_word" s_need_no_empty_word f__need_no_empty_word d__need_no_empty_word
  b__need_no_empty_word : Binds K d__need_no_empty_word ["row", "words"] []
  g__need_no_empty_word : mg "_need_no_empty_word" = some (.ref f__need_no_empty_word)
  f__need_coder_row : Addr
  d__need_coder_row : FuncData
  F__need_coder_row : Fun K "_need_coder_row" "_need_coder_row" s_need_coder_row f__need_coder_row d__need_coder_row
  b__need_coder_row : Binds K d__need_coder_row ["index", "words"] []
  g__need_coder_row : mg "_need_coder_row" = some (.ref f__need_coder_row)
  f__need_row_form : Addr
  d__need_row_form : FuncData
  F__need_row_form : Fun K "_need_row_form" "_need_row_form" s_need_row_form f__need_row_form d__need_row_form
  b__need_row_form : Binds K d__need_row_form ["row", "words", "name", "least", "most"] []
  g__need_row_form : mg "_need_row_form" = some (.ref f__need_row_form)
  f__is_number : Addr
  d__is_number : FuncData
  F__is_number : Fun K "_is_number" "_is_number" s_is_number f__is_number d__is_number
  b__is_number : Binds K d__is_number ["word"] []
  g__is_number : mg "_is_number" = some (.ref f__is_number)
  f__numbers_of : Addr
  d__numbers_of : FuncData
  F__numbers_of : Fun K "_numbers_of" "_numbers_of" s_numbers_of f__numbers_of d__numbers_of
  b__numbers_of : Binds K d__numbers_of ["words"] []
  g__numbers_of : mg "_numbers_of" = some (.ref f__numbers_of)
  f__law_begun : Addr
  d__law_begun : FuncData
  F__law_begun : Fun K "_law_begun" "_law_begun" s_law_begun f__law_begun d__law_begun
  b__law_begun : Binds K d__law_begun ["script"] []
  g__law_begun : mg "_law_begun" = some (.ref f__law_begun)
structure Txt2 (K : PySem.W.Frag) (mg : Str → Option Value) extends Txt1 K mg where
  f__law_next : Addr
  d__law_next : FuncData
  F__law_next : Fun K "_law_next" "_law_next" s_law_next f__law_next d__law_next
  b__law_next : Binds K d__law_next ["m", "many"] []
  g__law_next : mg "_law_next" = some (.ref f__law_next)
  f__law_wide : Addr
  d__law_wide : FuncData
  F__law_wide : Fun K "_law_wide" "_law_wide" s_law_wide f__law_wide d__law_wide
  b__law_wide : Binds K d__law_wide ["m"] []
  g__law_wide : mg "_law_wide" = some (.ref f__law_wide)
  f__law_text : Addr
  d__law_text : FuncData
  F__law_text : Fun K "_law_text" "_law_text" s_law_text f__law_text d__law_text
  b__law_text : Binds K d__law_text ["coder"] []
  g__law_text : mg "_law_text" = some (.ref f__law_text)
  f_law : Addr
  d_law : FuncData
  F_law : Fun K "law" "law" s_law f_law d_law
  b_law : Binds K d_law ["script"] []
  g_law : mg "law" = some (.ref f_law)
structure Txt (K : PySem.W.Frag) (mg : Str → Option Value) extends Txt2 K mg where
  z_all : mg "all" = none
  z_bool : mg "bool" = none
  z_enumerate : mg "enumerate" = none
  z_int : mg "int" = none
  z_isinstance : mg "isinstance" = none
  z_len : mg "len" = none
  z_list : mg "list" = none
  z_min : mg "min" = none
  z_range : mg "range" = none
  z_repr : mg "repr" = none
  z_str : mg "str" = none
  z_tuple : mg "tuple" = none
  t_DIGITS : Tok
  g_DIGITS : mg "DIGITS" = some (.str "0123456789" t_DIGITS)

end My

namespace My
open PySem PySem.Spec PyProof.Rows L2
/-! ### things and their kinds -/
def tyN : PyData → String
  | .none => "NoneType"
  | .bool _ => "bool"
  | .int _ => "int"
  | .str _ => "str"
  | .list _ => "list"
  | .tuple _ => "tuple"
  | .dict _ => "dict"
def isT : PyData → Bool
  | .tuple _ => true
  | _ => false
def isI : PyData → Bool
  | .int _ => true
  | .bool _ => true
  | _ => false
def isB : PyData → Bool
  | .bool _ => true
  | _ => false
theorem tyx {K : PySem.W.Frag} {H : Hp} {v : V} {d : PyData} (h : Dp K H v d) : TyX K H v (.type (tyN d)) := by
  cases h with
  | non => exact .base .non
  | bl b => exact .base (.bl b)
  | int i => exact .base (.int i)
  | str x => exact .base (.str x)
  | lst h _ =>
    rcases h with (h | ⟨o, h⟩) | ⟨o, its, n, h, hc, _⟩
    · exact .base (.lst h)
    · exact .base (.frz h)
    · exact .kList h hc
  | tup h _ =>
    rcases h with (h | ⟨o, h⟩) | ⟨o, its, n, h, hc, _⟩
    · exact .base (.tup h)
    · exact .fTuple h
    · exact .kTuple h hc
theorem kitI {K : PySem.W.Frag} : ∀ d : PyData, PySem.W.kitOne K (.type (tyN d)) (.type "int") = some (isI d)
  | .none => kit_ty (a := "NoneType") (b := "int") (r := false) (by decide +kernel)
  | .bool _ => kit_ty (a := "bool") (b := "int") (r := true) (by decide +kernel)
  | .int _ => kit_ty (a := "int") (b := "int") (r := true) (by decide +kernel)
  | .str _ => kit_ty (a := "str") (b := "int") (r := false) (by decide +kernel)
  | .list _ => kit_ty (a := "list") (b := "int") (r := false) (by decide +kernel)
  | .tuple _ => kit_ty (a := "tuple") (b := "int") (r := false) (by decide +kernel)
  | .dict _ => kit_ty (a := "dict") (b := "int") (r := false) (by decide +kernel)
theorem kitBo {K : PySem.W.Frag} : ∀ d : PyData, PySem.W.kitOne K (.type (tyN d)) (.type "bool") = some (isB d)
  | .none => kit_ty (a := "NoneType") (b := "bool") (r := false) (by decide +kernel)
  | .bool _ => kit_ty (a := "bool") (b := "bool") (r := true) (by decide +kernel)
  | .int _ => kit_ty (a := "int") (b := "bool") (r := false) (by decide +kernel)
  | .str _ => kit_ty (a := "str") (b := "bool") (r := false) (by decide +kernel)
  | .list _ => kit_ty (a := "list") (b := "bool") (r := false) (by decide +kernel)
  | .tuple _ => kit_ty (a := "tuple") (b := "bool") (r := false) (by decide +kernel)
  | .dict _ => kit_ty (a := "dict") (b := "bool") (r := false) (by decide +kernel)
theorem kitT {K : PySem.W.Frag} : ∀ d : PyData, PySem.W.kitOne K (.type (tyN d)) (.type "tuple") = some (isT d)
  | .none => kit_ty (a := "NoneType") (b := "tuple") (r := false) (by decide +kernel)
  | .bool _ => kit_ty (a := "bool") (b := "tuple") (r := false) (by decide +kernel)
  | .int _ => kit_ty (a := "int") (b := "tuple") (r := false) (by decide +kernel)
  | .str _ => kit_ty (a := "str") (b := "tuple") (r := false) (by decide +kernel)
  | .list _ => kit_ty (a := "list") (b := "tuple") (r := false) (by decide +kernel)
  | .tuple _ => kit_ty (a := "tuple") (b := "tuple") (r := true) (by decide +kernel)
  | .dict _ => kit_ty (a := "dict") (b := "tuple") (r := false) (by decide +kernel)
def btw (d : PyData) (lo hi : Int) : Bool := match d with
  | .int n => decide (lo ≤ n) && decide (n ≤ hi)
  | _ => false
def pairD : PyData → Bool
  | .tuple ds => decide ((ds.length : Int) = 2)
  | _ => false
theorem dpAll_len {K : PySem.W.Frag} {H : Hp} : ∀ {xs : List V} {ds : List PyData}, DpAll K H xs ds → xs.length = ds.length
  | _, _, .nil => rfl
  | _, _, .cons _ t => congrArg (· + 1) (dpAll_len t)
theorem dpAll_get {K : PySem.W.Frag} {H : Hp} : ∀ {xs : List V} {ds : List PyData} {i : Nat} {x : V}, DpAll K H xs ds → xs[i]? = some x → ∃ d, ds[i]? = some d ∧ Dp K H x d
  | _, _, _, _, .nil, h => by simp at h
  | _, _, 0, _, .cons h t, e => by
    simp at e
    subst e
    exact ⟨_, by simp, h⟩
  | _, _, i + 1, x, .cons h t, e => by
    obtain ⟨d, h1, h2⟩ := dpAll_get (i := i) (x := x) t (by simpa using e)
    exact ⟨d, by simpa using h1, h2⟩
theorem dpAll_get' {K : PySem.W.Frag} {H : Hp} {xs : List V} {ds : List PyData} {i : Nat} {d : PyData} (h : DpAll K H xs ds) (e : ds[i]? = some d) : ∃ x, xs[i]? = some x ∧ Dp K H x d := by
  have hl := dpAll_len h
  have hi := (List.getElem?_eq_some_iff.mp e).1
  obtain ⟨d', h1, h2⟩ := dpAll_get (i := i) (x := xs[i]) h (List.getElem?_eq_getElem (by omega))
  rw [e] at h1
  cases h1
  exact ⟨_, List.getElem?_eq_getElem (by omega), h2⟩
mutual
theorem dp_same {K : PySem.W.Frag} {H H' : Hp} (s : Same H H') : ∀ (d : PyData) (v : V), Dp K H v d → Dp K H' v d
  | .none, _, h => by cases h; exact .non
  | .bool _, _, h => by cases h; exact .bl _
  | .int _, _, h => by cases h; exact .int _
  | .str _, _, h => by cases h; exact .str _
  | .list ds, _, h => by
    cases h with
    | lst a b => exact .lst (s.seq a) (dpAll_same s ds _ b)
  | .tuple ds, _, h => by
    cases h with
    | tup a b => exact .tup (same_tup s a) (dpAll_same s ds _ b)
  | .dict _, _, h => by cases h
theorem dpAll_same {K : PySem.W.Frag} {H H' : Hp} (s : Same H H') : ∀ (ds : List PyData) (vs : List V), DpAll K H vs ds → DpAll K H' vs ds
  | [], _, h => by cases h; exact .nil
  | d :: ds, _, h => by
    cases h with
    | cons a b => exact .cons (dp_same s d _ a) (dpAll_same s ds _ b)
end
theorem dp_tup {K : PySem.W.Frag} {H : Hp} {v : V} {ds : List PyData} (h : Dp K H v (.tuple ds)) : ∃ a xs, v = .ref a ∧ SqT K H a xs ∧ DpAll K H xs ds := by
  cases h with
  | tup a b => exact ⟨_, _, rfl, a, b⟩
/-- hands back the value z, all stands -/
def Pure (K : PySem.W.Frag) (vs : List V) (H : Hp) (Q : VK) (args : List V) (z : V) : Prop := vs = args ∧ ∀ H', Same H H' → Q z H'
section
variable {P : Program} {w : World} {K : PySem.W.Frag} {mg : Str → Option Value} {base : Heap}
def intD (d : PyData) : Bool := isI d && !isB d
def sp_is_integer (K : PySem.W.Frag) : Sp := fun vs H Q _ => ∃ (x : V) (d : PyData), vs = [x] ∧ Dp K H x d ∧ ∀ H', Same H H' → Q (.bl (intD d)) H'
theorem ok_is_integer (T : Txt K mg) : FnOk P w K mg base CX0 1 T.f_is_integer T.d_is_integer ["thing"] (sp_is_integer K) := by
  refine T.F_is_integer.ok sc_is_integer (fun vs H Q E h => ?_) (fun cdv A outer s H vs Q E hr h => ?_)
  · obtain ⟨x, d, rfl, _⟩ := h
    rfl
  · obtain ⟨x, d, rfl, hd, q⟩ := h
    refine ⟨_,
(pss_one (ps_ret (pe_and (pe_callB (call_isi) (by rfl) T.z_isinstance (by decide +kernel) (pa_cons (pv 0) (pa_cons (pe_bltn (v := .ty "int") (by rfl) T.z_int (by decide +kernel) rfl) pa_nil))) (pe_one (pe_not (pe_callB (call_isi) (by rfl) T.z_isinstance (by decide +kernel) (pa_cons (pv 0) (pa_cons (pe_bltn (v := .ty "bool") (by rfl) T.z_bool (by decide +kernel) rfl) pa_nil))))))))
, ?_⟩
    have q' : ∀ b, intD d = b → Q (.bl b) H := fun b e => e ▸ q H (Same.refl H)
    refine ⟨x, rfl, x, .ty "int", _, _, _, rfl, .ty _, tyx hd, kitI d, _, rfl, ?_⟩
    cases h1 : isI d with
    | false => exact iteF (q' _ (by unfold intD; rw [h1]; rfl))
    | true =>
      refine iteT ?_
      refine ⟨_, rfl, _, .ty "bool", _, _, _, rfl, .ty _, tyx hd, kitBo d, _, rfl, ?_⟩
      exact q' _ (by unfold intD; rw [h1]; rfl)
theorem btw_not {d : PyData} (h : intD d = false) (lo hi : Int) : btw d lo hi = false := by
  cases d <;> first | rfl | cases h
theorem intD_int {d : PyData} (h : intD d = true) : ∃ n, d = .int n := by
  cases d <;> first | exact ⟨_, rfl⟩ | cases h
def sp_is_between (K : PySem.W.Frag) : Sp := fun vs H Q _ => ∃ (x : V) (d : PyData) (lo hi : Int), vs = [x, .int lo, .int hi] ∧ Dp K H x d ∧ ∀ H', Same H H' → Q (.bl (btw d lo hi)) H'
theorem ok_is_between (T : Txt K mg) : FnOk P w K mg base CX0 2 T.f_is_between T.d_is_between ["thing", "least", "most"] (sp_is_between K) := by
  refine T.F_is_between.ok sc_is_between (fun vs H Q E h => ?_) (fun cdv A outer s H vs Q E hr h => ?_)
  · obtain ⟨x, d, lo, hi, rfl, _⟩ := h
    rfl
  · obtain ⟨x, d, lo, hi, rfl, hd, q⟩ := h
    refine ⟨_,
(pss_one (ps_ret (pe_and (pe_call (ok_is_integer T) (hr.mono (by decide)) (by rfl) T.g_is_integer T.F_is_integer.kp T.b_is_integer .nil pass0 (pa_cons (pv 0) pa_nil)) (pe_one (pe_chain op_le op_le (pv 1) (pv 0) (pv 2))))))
, ?_⟩
    refine ⟨x, rfl, x, d, rfl, hd, fun H1 s1 => ⟨_, rfl, ?_⟩⟩
    have q' : ∀ b, btw d lo hi = b → Q (.bl b) H1 := fun b e => e ▸ q H1 s1
    cases h1 : intD d with
    | false => exact iteF (q' _ (btw_not h1 lo hi))
    | true =>
      obtain ⟨n, rfl⟩ := intD_int h1
      cases hd
      refine iteT ?_
      refine ⟨_, rfl, _, rfl, lo, n, rfl, rfl, _, rfl, ?_⟩
      refine ite2 (fun e => ?_) (fun e => ?_)
      · refine ⟨_, rfl, n, hi, rfl, rfl, ?_⟩
        exact q' _ (by show (decide (lo ≤ n) && decide (n ≤ hi)) = _; rw [e]; rfl)
      · exact q' _ (by show (decide (lo ≤ n) && decide (n ≤ hi)) = _; rw [Bool.not_eq_true] at e; rw [e]; rfl)
def sp_is_pair (K : PySem.W.Frag) : Sp := fun vs H Q _ => ∃ (x : V) (d : PyData), vs = [x] ∧ Dp K H x d ∧ ∀ H', Same H H' → Q (.bl (pairD d)) H'
theorem ok_is_pair (T : Txt K mg) : FnOk P w K mg base CX0 2 T.f_is_pair T.d_is_pair ["thing"] (sp_is_pair K) := by
  refine T.F_is_pair.ok sc_is_pair (fun vs H Q E h => ?_) (fun cdv A outer s H vs Q E hr h => ?_)
  · obtain ⟨x, d, rfl, _⟩ := h
    rfl
  · obtain ⟨x, d, rfl, hd, q⟩ := h
    refine ⟨_,
(pss_one (ps_ret (pe_and (pe_callB (call_isi) (by rfl) T.z_isinstance (by decide +kernel) (pa_cons (pv 0) (pa_cons (pe_bltn (v := .ty "tuple") (by rfl) T.z_tuple (by decide +kernel) rfl) pa_nil))) (pe_one (pe_cmpR op_eq (pe_callB (call_len_seq) (by rfl) T.z_len (by decide +kernel) (pa_cons (pv 0) pa_nil)) pe_int (nomark _))))))
, ?_⟩
    have q' : ∀ b, pairD d = b → Q (.bl b) H := fun b e => e ▸ q H (Same.refl H)
    refine ⟨x, rfl, x, .ty "tuple", _, _, _, rfl, .ty _, tyx hd, kitT d, _, rfl, ?_⟩
    cases hd with
    | tup h1 h2 =>
      refine iteT ?_
      refine ⟨_, rfl, _, _, rfl, .inr h1, rfl, ?_⟩
      exact q' _ (by show decide _ = decide _; rw [dpAll_len h2]; congr 1; simp)
    | non => exact iteF (q H (Same.refl H))
    | int n => exact iteF (q H (Same.refl H))
    | bl b => exact iteF (q H (Same.refl H))
    | str z => exact iteF (q H (Same.refl H))
    | lst _ _ => exact iteF (q H (Same.refl H))
def tupD (d : PyData) (lo hi : Int) : Bool := match d with
  | .tuple ds => decide (lo ≤ (ds.length : Int)) && decide ((ds.length : Int) ≤ hi)
  | _ => false
def sp_is_tuple_of (K : PySem.W.Frag) : Sp := fun vs H Q _ => ∃ (x : V) (d : PyData) (lo hi : Int), vs = [x, .int lo, .int hi] ∧ Dp K H x d ∧ ∀ H', Same H H' → Q (.bl (tupD d lo hi)) H'
theorem ok_is_tuple_of (T : Txt K mg) : FnOk P w K mg base CX0 2 T.f__is_tuple_of T.d__is_tuple_of ["thing", "least", "most"] (sp_is_tuple_of K) := by
  refine T.F__is_tuple_of.ok sc_is_tuple_of (fun vs H Q E h => ?_) (fun cdv A outer s H vs Q E hr h => ?_)
  · obtain ⟨x, d, lo, hi, rfl, _⟩ := h
    rfl
  · obtain ⟨x, d, lo, hi, rfl, hd, q⟩ := h
    refine ⟨_,
(pss_one (ps_ret (pe_and (pe_callB (call_isi) (by rfl) T.z_isinstance (by decide +kernel) (pa_cons (pv 0) (pa_cons (pe_bltn (v := .ty "tuple") (by rfl) T.z_tuple (by decide +kernel) rfl) pa_nil))) (pe_one (pe_chain op_le op_le (pv 1) (pe_callB (call_len_seq) (by rfl) T.z_len (by decide +kernel) (pa_cons (pv 0) pa_nil)) (pv 2))))))
, ?_⟩
    have q' : ∀ b, tupD d lo hi = b → Q (.bl b) H := fun b e => e ▸ q H (Same.refl H)
    refine ⟨x, rfl, x, .ty "tuple", _, _, _, rfl, .ty _, tyx hd, kitT d, _, rfl, ?_⟩
    cases hd with
    | @tup a xs ds h1 h2 =>
      refine iteT ?_
      refine ⟨_, rfl, _, rfl, _, _, rfl, .inr h1, lo, _, rfl, rfl, _, rfl, ?_⟩
      have hl : xs.length = ds.length := dpAll_len h2
      refine ite2 (fun e => ?_) (fun e => ?_)
      · refine ⟨_, rfl, _, hi, rfl, rfl, ?_⟩
        exact q' _ (by show (decide (lo ≤ (ds.length : Int)) && decide ((ds.length : Int) ≤ hi)) = _; rw [← hl, e]; rfl)
      · exact q' _ (by show (decide (lo ≤ (ds.length : Int)) && decide ((ds.length : Int) ≤ hi)) = _; rw [← hl]; rw [Bool.not_eq_true] at e; rw [e]; rfl)
    | non => exact iteF (q H (Same.refl H))
    | int n => exact iteF (q H (Same.refl H))
    | bl b => exact iteF (q H (Same.refl H))
    | str z => exact iteF (q H (Same.refl H))
    | lst _ _ => exact iteF (q H (Same.refl H))
def moveD : PyData → Bool
  | .tuple [a, b] => btw a (-32) 32 && btw b (-15) 15
  | _ => false
def sp_is_move (K : PySem.W.Frag) : Sp := fun vs H Q _ => ∃ (x : V) (d : PyData), vs = [x] ∧ Dp K H x d ∧ ∀ H', Same H H' → Q (.bl (moveD d)) H'
theorem ok_is_move (T : Txt K mg) : FnOk P w K mg base CX0 3 T.f__is_move T.d__is_move ["thing"] (sp_is_move K) := by
  refine T.F__is_move.ok sc_is_move (fun vs H Q E h => ?_) (fun cdv A outer s H vs Q E hr h => ?_)
  · obtain ⟨x, d, rfl, _⟩ := h
    rfl
  · obtain ⟨x, d, rfl, hd, q⟩ := h
    refine ⟨_,
(pss_one (ps_ret (pe_and (pe_call (ok_is_pair T) (hr.mono (by decide)) (by rfl) T.g_is_pair T.F_is_pair.kp T.b_is_pair .nil pass0 (pa_cons (pv 0) pa_nil)) (pe_and (pe_call (ok_is_between T) (hr.mono (by decide)) (by rfl) T.g_is_between T.F_is_between.kp T.b_is_between .nil pass0 (pa_cons (pe_ix ix_tup (pv 0) pe_int (fun _ _ => rfl)) (pa_cons (pe_un un_neg pe_int) (pa_cons pe_int pa_nil)))) (pe_one (pe_call (ok_is_between T) (hr.mono (by decide)) (by rfl) T.g_is_between T.F_is_between.kp T.b_is_between .nil pass0 (pa_cons (pe_ix ix_tup (pv 0) pe_int (fun _ _ => rfl)) (pa_cons (pe_un un_neg pe_int) (pa_cons pe_int pa_nil)))))))))
, ?_⟩
    have q' : ∀ b H', Same H H' → moveD d = b → Q (.bl b) H' := fun b H' s e => e ▸ q H' s
    refine ⟨x, rfl, x, d, rfl, hd, fun H1 s1 => ⟨_, rfl, ?_⟩⟩
    by_cases hp : pairD d = true
    · rw [hp]
      refine iteT ?_
      obtain ⟨da, db, rfl⟩ : ∃ da db, d = .tuple [da, db] := by
        cases d with
        | tuple ds =>
          match ds, hp with
          | [a, b], _ => exact ⟨a, b, rfl⟩
          | [], hp => cases hp
          | [a], hp => cases hp
          | a :: b :: c :: r, hp =>
            have := of_decide_eq_true (show decide (((a :: b :: c :: r).length : Int) = 2) = true from hp)
            simp at this
            omega
        | _ => cases hp
      obtain ⟨a, xs, rfl, ha, hds⟩ := dp_tup hd
      have ha1 := same_tup s1 ha
      obtain ⟨x0, e0, h0⟩ := dpAll_get' hds (i := 0) rfl
      obtain ⟨x1, e1, h1⟩ := dpAll_get' hds (i := 1) rfl
      refine ⟨_, rfl, a, xs, 0, x0, rfl, rfl, ha1, atI_nat (j := 0) e0, 32, rfl, x0, da, -32, 32, rfl, dp_same s1 _ _ h0, fun H2 s2 => ⟨_, rfl, ?_⟩⟩
      have ha2 := same_tup s2 ha1
      cases hb : btw da (-32) 32 with
      | false =>
        refine iteF ?_
        exact q' _ H2 (s1.trans s2) (by show (btw da (-32) 32 && btw db (-15) 15) = false; rw [hb]; rfl)
      | true =>
        refine iteT ?_
        refine ⟨_, rfl, a, xs, 1, x1, rfl, rfl, ha2, atI_nat (j := 1) e1, 15, rfl, x1, db, -15, 15, rfl, dp_same s2 _ _ (dp_same s1 _ _ h1), fun H3 s3 => ?_⟩
        exact q' _ H3 ((s1.trans s2).trans s3) (by show (btw da (-32) 32 && btw db (-15) 15) = _; rw [hb]; rfl)
    · rw [Bool.not_eq_true] at hp
      rw [hp]
      refine iteF ?_
      have e : moveD d = false := by
        unfold moveD
        split
        · cases hp
        · rfl
      exact q' _ H1 s1 e
def fadeD (d : PyData) : Bool := btw d 0 0 || btw d 2 99
def sp_is_fade (K : PySem.W.Frag) : Sp := fun vs H Q _ => ∃ (x : V) (d : PyData), vs = [x] ∧ Dp K H x d ∧ ∀ H', Same H H' → Q (.bl (fadeD d)) H'
theorem ok_is_fade (T : Txt K mg) : FnOk P w K mg base CX0 3 T.f__is_fade T.d__is_fade ["thing"] (sp_is_fade K) := by
  refine T.F__is_fade.ok sc_is_fade (fun vs H Q E h => ?_) (fun cdv A outer s H vs Q E hr h => ?_)
  · obtain ⟨x, d, rfl, _⟩ := h
    rfl
  · obtain ⟨x, d, rfl, hd, q⟩ := h
    refine ⟨_,
(pss_one (ps_ret (pe_or (pe_call (ok_is_between T) (hr.mono (by decide)) (by rfl) T.g_is_between T.F_is_between.kp T.b_is_between .nil pass0 (pa_cons (pv 0) (pa_cons pe_int (pa_cons pe_int pa_nil)))) (pe_one (pe_call (ok_is_between T) (hr.mono (by decide)) (by rfl) T.g_is_between T.F_is_between.kp T.b_is_between .nil pass0 (pa_cons (pv 0) (pa_cons pe_int (pa_cons pe_int pa_nil))))))))
, ?_⟩
    have q' : ∀ b H', Same H H' → fadeD d = b → Q (.bl b) H' := fun b H' s e => e ▸ q H' s
    refine ⟨x, rfl, x, d, 0, 0, rfl, hd, fun H1 s1 => ⟨_, rfl, ?_⟩⟩
    cases hb : btw d 0 0 with
    | true =>
      refine iteT ?_
      exact q' _ H1 s1 (by unfold fadeD; rw [hb]; rfl)
    | false =>
      refine iteF ?_
      refine ⟨x, rfl, x, d, 2, 99, rfl, dp_same s1 _ _ hd, fun H2 s2 => ?_⟩
      exact q' _ H2 (s1.trans s2) (by unfold fadeD; rw [hb]; rfl)
end
end My

namespace My
open PySem PySem.Spec PyProof.Rows L2
theorem for_enumT {K : PySem.W.Frag} {a : Addr} {xs : List V} {g : TG} {tb : L2.TS} {D : Ends} {σ : L2.St} {H : Hp} (Pv : Nat → L2.St → Hp → Prop) (h0 : Pv 0 σ H)
    (still : ∀ i σ H, i ≤ xs.length → Pv i σ H → SqT K H a xs)
    (turn : ∀ i x σ H T, xs[i]? = some x → Pv i σ H → H T = none → g (.ref T) σ (upd H T (.tup [.int (i : Nat), x])) fun σ2 H2 => tb { D with nx := Pv (i + 1), ct := Pv (i + 1), bk := D.nx } σ2 H2)
    (fin : ∀ σ H, Pv xs.length σ H → D.nx σ H) :
    ∃ W : Nat → Nat → L2.St → Hp → Prop, (∃ m, W 0 m σ H) ∧ ∀ i m σ H, W i m σ H →
      ((Itu K a).stop i H ∧ D.nx σ H) ∨ ((Itu K a).go i H ∧ ∃ N : L2.St → Hp → Prop, (∀ σ' H', N σ' H' → ∃ m', m' < m ∧ W (i + 1) m' σ' H') ∧ ∀ x H', (Itu K a).yld i H x H' → g x σ H' fun σ2 H2 => tb { D with nx := N, ct := N, bk := D.nx } σ2 H2) := by
  refine ⟨fun i m σ H => m + i = xs.length ∧ Pv i σ H, ⟨xs.length, by omega, h0⟩, ?_⟩
  rintro i m σ H ⟨hm, p⟩
  have q := still i σ H (by omega) p
  rcases Nat.lt_or_ge i xs.length with hlt | hge
  · refine Or.inr ⟨⟨xs, xs[i], q, List.getElem?_eq_getElem hlt⟩, Pv (i + 1), fun σ' H' p' => ⟨m - 1, by omega, by omega, p'⟩, ?_⟩
    rintro v H' ⟨T, x, rfl, hT, rfl, hx⟩
    exact turn i x σ H T (hx xs q) p hT
  · have e : i = xs.length := by omega
    exact Or.inl ⟨⟨xs, q, e.symm⟩, fin σ H (e ▸ p)⟩
theorem st_tail {t u : L2.TS} {D : Ends} {σ : L2.St} {H : Hp} (R : L2.St → Hp → Prop) (hR : ∀ σ H, R σ H → u D σ H)
    (h : (∀ σ H, R σ H → u D σ H) → t { D with nx := u D } σ H) : tSeq t u D σ H := h hR
/-- the place of the first thing of which p does not hold -/
def badAt (p : PyData → Bool) : Nat → List PyData → Option Nat
  | _, [] => none
  | i, d :: r => if p d = true then badAt p (i + 1) r else some i
theorem badAt_step {p : PyData → Bool} {ds : List PyData} {i : Nat} {d : PyData} (h : ds[i]? = some d) : badAt p i (ds.drop i) = if p d = true then badAt p (i + 1) (ds.drop (i + 1)) else some i := by
  have hi := (List.getElem?_eq_some_iff.mp h).1
  have e : ds.drop i = d :: ds.drop (i + 1) := by
    rw [List.drop_eq_getElem_cons hi]
    rw [List.getElem?_eq_getElem hi] at h
    rw [Option.some.inj h]
  rw [e]
  rfl
def noOr : Option Nat → PyData
  | none => .none
  | some i => .int i
def faultD (s : Str) : Option Nat → PyData
  | none => .none
  | some i => .tuple [.str s, .int i]
def rowF (s : Str) (lo hi : Int) (p : PyData → Bool) (d : PyData) : PyData := match d with
  | .tuple ds => if tupD (.tuple ds) lo hi = true then faultD s (badAt p 0 ds) else .tuple [.str s, .none]
  | _ => .tuple [.str s, .none]
def stepsF : PyData → PyData := rowF "steps" 1 16 (btw · 1 9999)
def movesF : PyData → PyData := rowF "moves" 2 16 moveD
theorem upd_tup {K : PySem.W.Frag} {H : Hp} {p : Addr} {xs : List V} : SqT K (upd H p (.tup xs)) p xs := .inl (.inl upd_same)
section
variable {P : Program} {w : World} {K : PySem.W.Frag} {mg : Str → Option Value} {base : Heap}
/-- hands back a thing that is f of the argument -/
def spF (K : PySem.W.Frag) (f : PyData → PyData) : Sp := fun vs H Q _ => ∃ (x : V) (d : PyData), vs = [x] ∧ Dp K H x d ∧ ∀ z H', Same H H' → Dp K H' z (f d) → Q z H'
theorem ok_fault_of_steps (T : Txt K mg) : FnOk P w K mg base CX0 3 T.f__fault_of_steps T.d__fault_of_steps ["steps"] (spF K stepsF) := by
  refine T.F__fault_of_steps.ok sc_fault_of_steps (fun vs H Q E h => ?_) (fun cdv A outer s H vs Q E hr h => ?_)
  · obtain ⟨x, d, rfl, _⟩ := h
    rfl
  · obtain ⟨x, d, rfl, hd, q⟩ := h
    have q' : ∀ z H' e, Same H H' → stepsF d = e → Dp K H' z e → Q z H' := fun z H' e s ee hz => q z H' s (ee ▸ hz)
    refine ⟨_,
(pss_cons (ps_if (pt_not (pt_val (pe_call (ok_is_tuple_of T) (hr.mono (by decide)) (by rfl) T.g__is_tuple_of T.F__is_tuple_of.kp T.b__is_tuple_of .nil pass0 (pa_cons (pv 0) (pa_cons pe_int (pa_cons pe_int pa_nil)))))) (pss_one (ps_ret (pe_tup (pa_cons pe_str (pa_cons pe_non pa_nil))))) pss_nil)
      (pss_cons (ps_for PassesOwn.never rfl (My.pi_enumT (by rfl) T.z_enumerate (pa_cons (pv 0) pa_nil)) (pg_tup (by rfl) (pgs_cons (pg_name (i := 1) sc_fault_of_steps.nd rfl (Or.inl rfl)) (pgs_cons (pg_name (i := 2) sc_fault_of_steps.nd rfl (Or.inl rfl)) pgs_nil))) (pss_one (ps_if (pt_not (pt_val (pe_call (ok_is_between T) (hr.mono (by decide)) (by rfl) T.g_is_between T.F_is_between.kp T.b_is_between .nil pass0 (pa_cons (pv 2) (pa_cons pe_int (pa_cons pe_int pa_nil)))))) (pss_one (ps_ret (pe_tup (pa_cons pe_str (pa_cons (pv 1) pa_nil))))) pss_nil)))
      (pss_one (ps_ret pe_non))))
, ?_⟩
    refine ⟨x, rfl, x, d, 1, 16, rfl, hd, fun H1 s1 => ⟨_, rfl, ?_⟩⟩
    cases hb : tupD d 1 16 with
    | false =>
      refine iteT ?_
      refine ⟨by decide, fun p hp => ?_⟩
      refine q' _ _ _ (s1.trans (same_new hp)) ?_ (.tup upd_tup (.cons (.str _) (.cons .non .nil)))
      unfold stepsF rowF
      split
      · rw [hb]; rfl
      · rfl
    | true =>
      refine iteF ?_
      obtain ⟨ds, rfl⟩ : ∃ ds, d = .tuple ds := by
        cases d with
        | tuple ds => exact ⟨ds, rfl⟩
        | _ => cases hb
      obtain ⟨a, xs, rfl, ha, hds⟩ := dp_tup hd
      have hF : stepsF (.tuple ds) = faultD "steps" (badAt (btw · 1 9999) 0 ds) := by
        show (if _ then _ else _) = _
        rw [if_pos hb]
      refine ⟨.ref a, rfl, a, xs, rfl, same_tup s1 ha, ?_⟩
      refine for_enumT (K := K) (a := a) (xs := xs) (fun i σ H' => ∃ y1 y2, σ = [some (.ref a), y1, y2] ∧ Same H H' ∧ badAt (btw · 1 9999) 0 ds = badAt (btw · 1 9999) i (ds.drop i)) ⟨none, none, rfl, s1, rfl⟩ ?_ ?_ ?_
      · rintro i σ H' _ ⟨_, _, _, s2, _⟩
        exact same_tup s2 ha
      · rintro i v σ H' p hi ⟨y1, y2, rfl, s2, hbad⟩ hp
        obtain ⟨dv, hdv, hv⟩ := dpAll_get hds hi
        rw [badAt_step hdv] at hbad
        have s3 := s2.trans (same_new (o := .tup [.int (i : Nat), v]) hp)
        refine ⟨p, _, rfl, upd_tup, rfl, _, _, rfl, _, _, rfl, rfl, ?_⟩
        refine ⟨_, rfl, v, dv, 1, 9999, rfl, dp_same s3 _ _ hv, fun H2 s4 => ⟨_, rfl, ?_⟩⟩
        cases hg : btw dv 1 9999 with
        | true =>
          refine iteF ?_
          rw [hg] at hbad
          exact ⟨_, _, rfl, s3.trans s4, hbad⟩
        | false =>
          refine iteT ?_
          rw [hg] at hbad
          refine ⟨_, rfl, by show 2 ≤ sizeLine; decide, fun p2 hp2 => ?_⟩
          refine q' _ _ _ ((s3.trans s4).trans (same_new hp2)) (hF.trans ?_) (.tup upd_tup (.cons (.str _) (.cons (.int _) .nil)))
          rw [hbad]
          rfl
      · rintro σ H' ⟨y1, y2, rfl, s2, hbad⟩
        refine q' _ _ _ s2 (hF.trans ?_) .non
        rw [hbad, dpAll_len hds, List.drop_length]
        rfl
theorem ok_fault_of_moves (T : Txt K mg) : FnOk P w K mg base CX0 4 T.f__fault_of_moves T.d__fault_of_moves ["moves"] (spF K movesF) := by
  refine T.F__fault_of_moves.ok sc_fault_of_moves (fun vs H Q E h => ?_) (fun cdv A outer s H vs Q E hr h => ?_)
  · obtain ⟨x, d, rfl, _⟩ := h
    rfl
  · obtain ⟨x, d, rfl, hd, q⟩ := h
    have q' : ∀ z H' e, Same H H' → movesF d = e → Dp K H' z e → Q z H' := fun z H' e s ee hz => q z H' s (ee ▸ hz)
    refine ⟨_,
(pss_cons (ps_if (pt_not (pt_val (pe_call (ok_is_tuple_of T) (hr.mono (by decide)) (by rfl) T.g__is_tuple_of T.F__is_tuple_of.kp T.b__is_tuple_of .nil pass0 (pa_cons (pv 0) (pa_cons pe_int (pa_cons pe_int pa_nil)))))) (pss_one (ps_ret (pe_tup (pa_cons pe_str (pa_cons pe_non pa_nil))))) pss_nil)
      (pss_cons (ps_for PassesOwn.never rfl (My.pi_enumT (by rfl) T.z_enumerate (pa_cons (pv 0) pa_nil)) (pg_tup (by rfl) (pgs_cons (pg_name (i := 1) sc_fault_of_moves.nd rfl (Or.inl rfl)) (pgs_cons (pg_name (i := 2) sc_fault_of_moves.nd rfl (Or.inl rfl)) pgs_nil))) (pss_one (ps_if (pt_not (pt_val (pe_call (ok_is_move T) (hr.mono (by decide)) (by rfl) T.g__is_move T.F__is_move.kp T.b__is_move .nil pass0 (pa_cons (pv 2) pa_nil)))) (pss_one (ps_ret (pe_tup (pa_cons pe_str (pa_cons (pv 1) pa_nil))))) pss_nil)))
      (pss_one (ps_ret pe_non))))
, ?_⟩
    refine ⟨x, rfl, x, d, 2, 16, rfl, hd, fun H1 s1 => ⟨_, rfl, ?_⟩⟩
    cases hb : tupD d 2 16 with
    | false =>
      refine iteT ?_
      refine ⟨by decide, fun p hp => ?_⟩
      refine q' _ _ _ (s1.trans (same_new hp)) ?_ (.tup upd_tup (.cons (.str _) (.cons .non .nil)))
      unfold movesF rowF
      split
      · rw [hb]; rfl
      · rfl
    | true =>
      refine iteF ?_
      obtain ⟨ds, rfl⟩ : ∃ ds, d = .tuple ds := by
        cases d with
        | tuple ds => exact ⟨ds, rfl⟩
        | _ => cases hb
      obtain ⟨a, xs, rfl, ha, hds⟩ := dp_tup hd
      have hF : movesF (.tuple ds) = faultD "moves" (badAt moveD 0 ds) := by
        show (if _ then _ else _) = _
        rw [if_pos hb]
      refine ⟨.ref a, rfl, a, xs, rfl, same_tup s1 ha, ?_⟩
      refine for_enumT (K := K) (a := a) (xs := xs) (fun i σ H' => ∃ y1 y2, σ = [some (.ref a), y1, y2] ∧ Same H H' ∧ badAt moveD 0 ds = badAt moveD i (ds.drop i)) ⟨none, none, rfl, s1, rfl⟩ ?_ ?_ ?_
      · rintro i σ H' _ ⟨_, _, _, s2, _⟩
        exact same_tup s2 ha
      · rintro i v σ H' p hi ⟨y1, y2, rfl, s2, hbad⟩ hp
        obtain ⟨dv, hdv, hv⟩ := dpAll_get hds hi
        rw [badAt_step hdv] at hbad
        have s3 := s2.trans (same_new (o := .tup [.int (i : Nat), v]) hp)
        refine ⟨p, _, rfl, upd_tup, rfl, _, _, rfl, _, _, rfl, rfl, ?_⟩
        refine ⟨_, rfl, v, dv, rfl, dp_same s3 _ _ hv, fun H2 s4 => ⟨_, rfl, ?_⟩⟩
        cases hg : moveD dv with
        | true =>
          refine iteF ?_
          rw [hg] at hbad
          exact ⟨_, _, rfl, s3.trans s4, hbad⟩
        | false =>
          refine iteT ?_
          rw [hg] at hbad
          refine ⟨_, rfl, by show 2 ≤ sizeLine; decide, fun p2 hp2 => ?_⟩
          refine q' _ _ _ ((s3.trans s4).trans (same_new hp2)) (hF.trans ?_) (.tup upd_tup (.cons (.str _) (.cons (.int _) .nil)))
          rw [hbad]
          rfl
      · rintro σ H' ⟨y1, y2, rfl, s2, hbad⟩
        refine q' _ _ _ s2 (hF.trans ?_) .non
        rw [hbad, dpAll_len hds, List.drop_length]
        rfl
/-- the five things -/
def codF (low high steps moves fade : PyData) : PyData :=
  if btw low (-32768) 0 = true then
    if btw high 0 32767 = true then
      match stepsF steps with
      | .none => (match movesF moves with
        | .none => if fadeD fade = true then .none else .tuple [.str "fade", .none]
        | e => e)
      | e => e
    else .tuple [.str "high", .none]
  else .tuple [.str "low", .none]
def firstF : PyData → PyData
  | .tuple [low, high, steps, moves, fade] => codF low high steps moves fade
  | _ => .tuple [.str "form", .none]
def isN : PyData → Bool
  | .none => true
  | _ => false
theorem dp_isN {K : PySem.W.Frag} {H : Hp} {z : V} {e : PyData} (h : Dp K H z e) : decide (z = V.non) = isN e := by
  cases h <;> rfl
theorem len5 {ds : List PyData} (h : ds.length = 5) : ∃ a b c d e, ds = [a, b, c, d, e] := by
  match ds, h with
  | [a, b, c, d, e], _ => exact ⟨a, b, c, d, e, rfl⟩
theorem dpAll5 {K : PySem.W.Frag} {H : Hp} {xs : List V} {a b c d e : PyData} (h : DpAll K H xs [a, b, c, d, e]) : ∃ x1 x2 x3 x4 x5, xs = [x1, x2, x3, x4, x5] ∧ Dp K H x1 a ∧ Dp K H x2 b ∧ Dp K H x3 c ∧ Dp K H x4 d ∧ Dp K H x5 e := by
  cases h with
  | cons h1 h => cases h with
    | cons h2 h => cases h with
      | cons h3 h => cases h with
        | cons h4 h => cases h with
          | cons h5 h => cases h with
            | nil => exact ⟨_, _, _, _, _, rfl, h1, h2, h3, h4, h5⟩
theorem ok_first_fault (T : Txt K mg) : FnOk P w K mg base CX0 5 T.f__first_fault T.d__first_fault ["thing"] (spF K firstF) := by
  refine T.F__first_fault.ok sc_first_fault (fun vs H Q E h => ?_) (fun cdv A outer s H vs Q E hr h => ?_)
  · obtain ⟨x, d, rfl, _⟩ := h
    rfl
  · obtain ⟨x, d, rfl, hd, q⟩ := h
    have q' : ∀ z H' e, Same H H' → firstF d = e → Dp K H' z e → Q z H' := fun z H' e s ee hz => q z H' s (ee ▸ hz)
    refine ⟨_,
(pss_cons (ps_if (PW.pt (pw_or (pt_not (pt_val (pe_callB (call_isi) (by rfl) T.z_isinstance (by decide +kernel) (pa_cons (pv 0) (pa_cons (pe_bltn (v := .ty "tuple") (by rfl) T.z_tuple (by decide +kernel) rfl) pa_nil))))) (pw_or1 (pt_cmpR op_ne (pe_callB (call_len_seq) (by rfl) T.z_len (by decide +kernel) (pa_cons (pv 0) pa_nil)) pe_int (nomark _))))) (pss_one (ps_ret (pe_tup (pa_cons pe_str (pa_cons pe_non pa_nil))))) pss_nil)
      (pss_cons (ps_asg (pv 0) (pg_tup (by rfl) (pgs_cons (pg_name (i := 1) sc_first_fault.nd rfl (Or.inl rfl)) (pgs_cons (pg_name (i := 2) sc_first_fault.nd rfl (Or.inl rfl)) (pgs_cons (pg_name (i := 3) sc_first_fault.nd rfl (Or.inl rfl)) (pgs_cons (pg_name (i := 4) sc_first_fault.nd rfl (Or.inl rfl)) (pgs_cons (pg_name (i := 5) sc_first_fault.nd rfl (Or.inl rfl)) pgs_nil)))))))
      (pss_cons (ps_if (pt_not (pt_val (pe_call (ok_is_between T) (hr.mono (by decide)) (by rfl) T.g_is_between T.F_is_between.kp T.b_is_between .nil pass0 (pa_cons (pv 1) (pa_cons (pe_un un_neg pe_int) (pa_cons pe_int pa_nil)))))) (pss_one (ps_ret (pe_tup (pa_cons pe_str (pa_cons pe_non pa_nil))))) pss_nil)
      (pss_cons (ps_if (pt_not (pt_val (pe_call (ok_is_between T) (hr.mono (by decide)) (by rfl) T.g_is_between T.F_is_between.kp T.b_is_between .nil pass0 (pa_cons (pv 2) (pa_cons pe_int (pa_cons pe_int pa_nil)))))) (pss_one (ps_ret (pe_tup (pa_cons pe_str (pa_cons pe_non pa_nil))))) pss_nil)
      (pss_cons (ps_set (i := 6) sc_first_fault.nd rfl (Or.inl rfl) (pe_call (ok_fault_of_steps T) (hr.mono (by decide)) (by rfl) T.g__fault_of_steps T.F__fault_of_steps.kp T.b__fault_of_steps .nil pass0 (pa_cons (pv 3) pa_nil)))
      (pss_cons (ps_if (pt_cmpR op_isN (pv 6) pe_non (nomark _)) (pss_one (ps_set (i := 6) sc_first_fault.nd rfl (Or.inl rfl) (pe_call (ok_fault_of_moves T) (hr.mono (by decide)) (by rfl) T.g__fault_of_moves T.F__fault_of_moves.kp T.b__fault_of_moves .nil pass0 (pa_cons (pv 4) pa_nil)))) pss_nil)
      (pss_cons (ps_if (PW.pt (pw_and (pt_cmpR op_isN (pv 6) pe_non (nomark _)) (pw_and1 (pt_not (pt_val (pe_call (ok_is_fade T) (hr.mono (by decide)) (by rfl) T.g__is_fade T.F__is_fade.kp T.b__is_fade .nil pass0 (pa_cons (pv 5) pa_nil))))))) (pss_one (ps_set (i := 6) sc_first_fault.nd rfl (Or.inl rfl) (pe_tup (pa_cons pe_str (pa_cons pe_non pa_nil))))) pss_nil)
      (pss_one (ps_ret (pv 6))))))))))
, ?_⟩
    refine ⟨x, rfl, x, .ty "tuple", _, _, _, rfl, .ty _, tyx hd, kitT d, _, rfl, ?_⟩
    -- no tuple of five things
    have bad : (∀ a b c e f, d ≠ .tuple [a, b, c, e, f]) → ∀ H1, Same H H1 → ([V.str "form", V.non].length ≤ sizeLine ∧ ∀ p, H1 p = none → Q (.ref p) (upd H1 p (.tup [V.str "form", V.non]))) := fun nd H1 s1 => by
      refine ⟨by decide, fun p hp => q' _ _ _ (s1.trans (same_new hp)) ?_ (.tup upd_tup (.cons (.str _) (.cons .non .nil)))⟩
      unfold firstF
      split
      · exact absurd rfl (nd _ _ _ _ _)
      · rfl
    cases hT : isT d with
    | false =>
      refine iteT ?_
      exact bad (fun a b c e f z => by rw [z] at hT; cases hT) H (Same.refl H)
    | true =>
      refine iteF ?_
      obtain ⟨ds, rfl⟩ : ∃ ds, d = .tuple ds := by
        cases d with
        | tuple ds => exact ⟨ds, rfl⟩
        | _ => cases hT
      obtain ⟨a, xs, rfl, ha, hds⟩ := dp_tup hd
      refine ⟨_, rfl, a, xs, rfl, .inr ha, rfl, _, rfl, ?_⟩
      have hl := dpAll_len hds
      by_cases h5 : ds.length = 5
      · have e5 : decide (V.int (xs.length : Int) = V.int 5) = true := by rw [hl, h5]; rfl
        rw [e5]
        refine iteF ?_
        obtain ⟨low, high, steps, moves, fade, rfl⟩ := len5 h5
        obtain ⟨x1, x2, x3, x4, x5, rfl, d1, d2, d3, d4, d5⟩ := dpAll5 hds
        have hF : firstF (.tuple [low, high, steps, moves, fade]) = codF low high steps moves fade := rfl
        rw [hF] at q'
        refine ⟨_, rfl, a, _, rfl, ha, rfl, _, _, rfl, _, _, rfl, _, _, rfl, _, _, rfl, _, _, rfl, rfl, ?_⟩
        refine ⟨_, rfl, 32768, rfl, x1, low, -32768, 0, rfl, d1, fun H1 s1 => ⟨_, rfl, ?_⟩⟩
        cases b1 : btw low (-32768) 0 with
        | false =>
          refine iteT ?_
          refine ⟨by decide, fun p hp => q' _ _ _ (s1.trans (same_new hp)) ?_ (.tup upd_tup (.cons (.str "low") (.cons .non .nil)))⟩
          unfold codF
          rw [b1]
          rfl
        | true =>
        refine iteF ?_
        refine ⟨_, rfl, x2, high, 0, 32767, rfl, dp_same s1 _ _ d2, fun H2 s2 => ⟨_, rfl, ?_⟩⟩
        have s12 := s1.trans s2
        cases b2 : btw high 0 32767 with
        | false =>
          refine iteT ?_
          refine ⟨by decide, fun p hp => q' _ _ _ (s12.trans (same_new hp)) ?_ (.tup upd_tup (.cons (.str "high") (.cons .non .nil)))⟩
          unfold codF
          rw [b1, b2]
          rfl
        | true =>
        refine iteF ?_
        refine ⟨_, rfl, x3, steps, rfl, dp_same s12 _ _ d3, fun z1 H3 s3 hz1 => ?_⟩
        have s13 := s12.trans s3
        dsimp only
        refine st_tail (fun σ H' => ∃ (z : V) (e : PyData), σ = [some (.ref a), some x1, some x2, some x3, some x4, some x5, some z] ∧ Same H H' ∧ Dp K H' z e ∧
          codF low high steps moves fade = (if isN e = true then (if fadeD fade = true then .none else .tuple [.str "fade", .none]) else e)) ?_ fun tail => ?_
        · rintro σ H4 ⟨z, e, rfl, s4, hz, he⟩
          refine ⟨_, rfl, rfl, _, rfl, ?_⟩
          show if decide (z = V.non) = true then _ else _
          rw [dp_isN hz]
          cases hn : isN e with
          | false =>
            refine iteF ?_
            refine iteF ?_
            refine ⟨_, rfl, q' _ _ _ s4 ?_ hz⟩
            rw [he, hn]
            rfl
          | true =>
            refine iteT ?_
            refine ⟨_, rfl, x5, fade, rfl, dp_same s4 _ _ d5, fun H5 s5 => ⟨_, rfl, ?_⟩⟩
            cases hf : fadeD fade with
            | true =>
              refine iteF ?_
              have en : e = .none := by
                cases e with
                | none => rfl
                | _ => cases hn
              refine ⟨_, rfl, q' _ _ _ (s4.trans s5) ?_ (dp_same s5 _ _ hz)⟩
              rw [he, hn, hf, en]
              rfl
            | false =>
              refine iteT ?_
              refine ⟨by decide, fun p hp => ⟨_, rfl, q' _ _ _ ((s4.trans s5).trans (same_new hp)) ?_ (.tup upd_tup (.cons (.str "fade") (.cons .non .nil)))⟩⟩
              rw [he, hn, hf]
              rfl
        refine ⟨_, rfl, rfl, _, rfl, ?_⟩
        show if decide (z1 = V.non) = true then _ else _
        rw [dp_isN hz1]
        have hC : codF low high steps moves fade = (match stepsF steps with
          | .none => (match movesF moves with
            | .none => if fadeD fade = true then .none else .tuple [.str "fade", .none]
            | e => e)
          | e => e) := by
          unfold codF
          rw [b1, b2]
          rfl
        cases hn : isN (stepsF steps) with
        | false =>
          refine iteF ?_
          refine tail _ _ ⟨z1, stepsF steps, rfl, s13, hz1, ?_⟩
          rw [hC, hn]
          cases e : stepsF steps with
          | none => rw [e] at hn; cases hn
          | _ => rfl
        | true =>
          refine iteT ?_
          refine ⟨_, rfl, x4, moves, rfl, dp_same s13 _ _ d4, fun z2 H4 s4 hz2 => ?_⟩
          refine tail _ _ ⟨z2, movesF moves, rfl, s13.trans s4, hz2, ?_⟩
          rw [hC]
          have en : stepsF steps = .none := by
            cases e : stepsF steps with
            | none => rfl
            | _ => rw [e] at hn; cases hn
          rw [en]
          cases movesF moves <;> rfl
      · have e5 : decide (V.int (xs.length : Int) = V.int 5) = false := by
          rw [hl]
          refine decide_eq_false fun z => h5 ?_
          have := V.int.inj z
          omega
        rw [e5]
        refine iteT ?_
        exact bad (fun a b c e f z => by cases z; exact h5 rfl) H (Same.refl H)
end
end My

namespace My
open PySem PySem.Spec PyProof.Rows L2
/-! ### coders, states, the move of a code: the mathematics -/
structure Cod where
  low : Int
  high : Int
  steps : List Int
  moves : List (Int × Int)
  fade : Int
def pairI (p : Int × Int) : PyData := .tuple [.int p.1, .int p.2]
def Cod.dat (C : Cod) : PyData := .tuple [.int C.low, .int C.high, .tuple (C.steps.map .int), .tuple (C.moves.map pairI), .int C.fade]
structure Cod.Ok (C : Cod) : Prop where
  l1 : -32768 ≤ C.low
  l2 : C.low ≤ 0
  h1 : 0 ≤ C.high
  h2 : C.high ≤ 32767
  s1 : 1 ≤ C.steps.length
  s2 : C.steps.length ≤ 16
  s3 : ∀ s ∈ C.steps, 1 ≤ s ∧ s ≤ 9999
  m1 : 2 ≤ C.moves.length
  m2 : C.moves.length ≤ 16
  m3 : ∀ p ∈ C.moves, (-32 ≤ p.1 ∧ p.1 ≤ 32) ∧ (-15 ≤ p.2 ∧ p.2 ≤ 15)
  f1 : C.fade = 0 ∨ (2 ≤ C.fade ∧ C.fade ≤ 99)
def rnd (n d : Int) : Int := if n < 0 then -((-n).fdiv d) else n.fdiv d
def lim (n lo hi : Int) : Int := if n < lo then lo else if hi < n then hi else n
def fdd (l f : Int) : Int := if f = 0 then l else l - rnd l f
def Cod.chg (C : Cod) (k p : Nat) : Int := rnd ((C.moves.getD k (0, 0)).1 * C.steps.getD p 0) 8
def Cod.led (C : Cod) (s : Int × Int) (k : Nat) : Int × Int :=
  (lim (fdd s.1 C.fade + C.chg k s.2.toNat) C.low C.high, lim (s.2 + (C.moves.getD k (0, 0)).2) 0 ((C.steps.length : Int) - 1))
def Cod.St (C : Cod) (s : Int × Int) : Prop := C.low ≤ s.1 ∧ s.1 ≤ C.high ∧ 0 ≤ s.2 ∧ s.2 < C.steps.length
theorem lim_in {n lo hi : Int} (h : lo ≤ hi) : lo ≤ lim n lo hi ∧ lim n lo hi ≤ hi := by
  unfold lim
  split
  · omega
  · split <;> omega
theorem Cod.led_St {C : Cod} (O : C.Ok) (s : Int × Int) (k : Nat) : C.St (C.led s k) := by
  have h1 := lim_in (n := fdd s.1 C.fade + C.chg k s.2.toNat) (lo := C.low) (hi := C.high) (by have := O.l2; have := O.h1; omega)
  have h2 := lim_in (n := s.2 + (C.moves.getD k (0, 0)).2) (lo := 0) (hi := (C.steps.length : Int) - 1) (by have := O.s1; omega)
  exact ⟨h1.1, h1.2, h2.1, by show lim _ _ _ < _; omega⟩
theorem badAt_none {p : PyData → Bool} : ∀ {ds : List PyData} {i : Nat}, (∀ d ∈ ds, p d = true) → badAt p i ds = none
  | [], _, _ => rfl
  | d :: r, i, h => by
    show (if p d = true then badAt p (i + 1) r else some i) = none
    rw [if_pos (h d List.mem_cons_self)]
    exact badAt_none fun e he => h e (List.mem_cons_of_mem _ he)
theorem btw_in {n lo hi : Int} (h1 : lo ≤ n) (h2 : n ≤ hi) : btw (.int n) lo hi = true := by
  show (decide _ && decide _) = true
  rw [decide_eq_true h1, decide_eq_true h2]
  rfl
theorem tup_in {ds : List PyData} {lo hi : Int} (h1 : lo ≤ (ds.length : Int)) (h2 : (ds.length : Int) ≤ hi) : tupD (.tuple ds) lo hi = true := by
  show (decide _ && decide _) = true
  rw [decide_eq_true h1, decide_eq_true h2]
  rfl
theorem Cod.Ok.first {C : Cod} (O : C.Ok) : firstF C.dat = .none := by
  have e1 : stepsF (.tuple (C.steps.map .int)) = .none := by
    show (if _ then _ else _) = _
    rw [if_pos (tup_in (by rw [List.length_map]; have := O.s1; omega) (by rw [List.length_map]; have := O.s2; omega)), badAt_none]
    · rfl
    · intro d hd
      obtain ⟨s, hs, rfl⟩ := List.mem_map.mp hd
      exact btw_in (O.s3 s hs).1 (O.s3 s hs).2
  have e2 : movesF (.tuple (C.moves.map pairI)) = .none := by
    show (if _ then _ else _) = _
    rw [if_pos (tup_in (by rw [List.length_map]; have := O.m1; omega) (by rw [List.length_map]; have := O.m2; omega)), badAt_none]
    · rfl
    · intro d hd
      obtain ⟨p, hp, rfl⟩ := List.mem_map.mp hd
      obtain ⟨⟨a1, a2⟩, b1, b2⟩ := O.m3 p hp
      show (btw (.int p.1) (-32) 32 && btw (.int p.2) (-15) 15) = true
      rw [btw_in a1 a2, btw_in b1 b2]
      rfl
  have e3 : fadeD (.int C.fade) = true := by
    unfold fadeD
    rcases O.f1 with h | ⟨h1, h2⟩
    · rw [btw_in (by omega) (by omega)]
      rfl
    · rw [btw_in h1 h2, Bool.or_true]
  show codF (.int C.low) (.int C.high) (.tuple (C.steps.map .int)) (.tuple (C.moves.map pairI)) (.int C.fade) = .none
  unfold codF
  rw [if_pos (btw_in O.l1 O.l2), if_pos (btw_in O.h1 O.h2), e1, e2, if_pos e3]
theorem dpAll_ints {K : PySem.W.Frag} {H : Hp} : ∀ {ns : List Int} {xs : List V}, DpAll K H xs (ns.map .int) → xs = ns.map V.int
  | [], _, h => by cases h; rfl
  | n :: r, _, h => by
    cases h with
    | cons a b =>
      cases a
      rw [dpAll_ints b]
      rfl
theorem dp_int {K : PySem.W.Frag} {H : Hp} {v : V} {n : Int} (h : Dp K H v (.int n)) : v = .int n := by
  cases h
  rfl
theorem dpAll2 {K : PySem.W.Frag} {H : Hp} {xs : List V} {a b : PyData} (h : DpAll K H xs [a, b]) : ∃ x1 x2, xs = [x1, x2] ∧ Dp K H x1 a ∧ Dp K H x2 b := by
  cases h with
  | cons h1 h => cases h with
    | cons h2 h => cases h with
      | nil => exact ⟨_, _, rfl, h1, h2⟩
theorem dp_pair {K : PySem.W.Frag} {H : Hp} {v : V} {p : Int × Int} (h : Dp K H v (pairI p)) : ∃ a, v = .ref a ∧ SqT K H a [.int p.1, .int p.2] := by
  obtain ⟨a, xs, rfl, ha, hd⟩ := dp_tup h
  obtain ⟨x1, x2, rfl, h1, h2⟩ := dpAll2 hd
  rw [dp_int h1, dp_int h2] at ha
  exact ⟨a, rfl, ha⟩
/-- a coder's parts -/
theorem cod_at {K : PySem.W.Frag} {H : Hp} {c : V} {C : Cod} (h : Dp K H c C.dat) : ∃ (a s m : Addr) (ms : List V), c = .ref a ∧ SqT K H a [.int C.low, .int C.high, .ref s, .ref m, .int C.fade] ∧
    SqT K H s (C.steps.map V.int) ∧ SqT K H m ms ∧ DpAll K H ms (C.moves.map pairI) := by
  obtain ⟨a, xs, rfl, ha, hd⟩ := dp_tup h
  obtain ⟨x1, x2, x3, x4, x5, rfl, h1, h2, h3, h4, h5⟩ := dpAll5 hd
  obtain ⟨s, ys, rfl, hs, hsd⟩ := dp_tup h3
  obtain ⟨m, ms, rfl, hm, hmd⟩ := dp_tup h4
  rw [dp_int h1, dp_int h2, dp_int h5] at ha
  rw [dpAll_ints hsd] at hs
  exact ⟨a, s, m, ms, rfl, ha, hs, hm, hmd⟩
theorem move_at {K : PySem.W.Frag} {H : Hp} {C : Cod} {ms : List V} (h : DpAll K H ms (C.moves.map pairI)) {k : Nat} (hk : k < C.moves.length) :
    ∃ q, ms[k]? = some (.ref q) ∧ SqT K H q [.int (C.moves.getD k (0, 0)).1, .int (C.moves.getD k (0, 0)).2] := by
  have e : (C.moves.map pairI)[k]? = some (pairI (C.moves.getD k (0, 0))) := by
    rw [List.getElem?_map, List.getElem?_eq_getElem hk, List.getD_eq_getElem?_getD, List.getElem?_eq_getElem hk]
    rfl
  obtain ⟨x, hx, hd⟩ := dpAll_get' h e
  obtain ⟨q, rfl, hq⟩ := dp_pair hd
  exact ⟨q, hx, hq⟩
theorem step_at {C : Cod} {p : Nat} (hp : p < C.steps.length) : (C.steps.map V.int)[p]? = some (.int (C.steps.getD p 0)) := by
  rw [List.getElem?_map, List.getElem?_eq_getElem hp, List.getD_eq_getElem?_getD, List.getElem?_eq_getElem hp]
  rfl
section
variable {P : Program} {w : World} {K : PySem.W.Frag} {mg : Str → Option Value} {base : Heap}
def sp_need_coder (K : PySem.W.Frag) : Sp := fun vs H Q _ => ∃ (x : V) (d : PyData), vs = [x] ∧ Dp K H x d ∧ firstF d = .none ∧ ∀ H', Same H H' → Q x H'
theorem ok_need_coder (T : Txt K mg) : FnOk P w K mg base CX0 6 T.f_need_coder T.d_need_coder ["thing"] (sp_need_coder K) := by
  refine T.F_need_coder.ok sc_need_coder (fun vs H Q E h => ?_) (fun cdv A outer s H vs Q E hr h => ?_)
  · obtain ⟨x, d, rfl, _⟩ := h
    rfl
  · obtain ⟨x, d, rfl, hd, h0, q⟩ := h
    refine ⟨_,
(pss_cons (ps_set (i := 1) sc_need_coder.nd rfl (Or.inl rfl) (pe_call (ok_first_fault T) (hr.mono (by decide)) (by rfl) T.g__first_fault T.F__first_fault.kp T.b__first_fault .nil pass0 (pa_cons (pv 0) pa_nil)))
      (pss_cons (ps_if (pt_cmpR op_notN (pv 1) pe_non (nomark _)) (pss_one ps_never) pss_nil)
      (pss_one (ps_ret (pv 0)))))
, ?_⟩
    refine ⟨x, rfl, x, d, rfl, hd, fun z H1 s1 hz => ?_⟩
    rw [h0] at hz
    cases hz
    refine ⟨_, rfl, rfl, _, rfl, ?_⟩
    refine iteF ?_
    exact ⟨x, rfl, q H1 s1⟩
def stateD (C : Cod) : PyData → Bool
  | .tuple [a, b] => btw a C.low C.high && btw b 0 ((C.steps.length : Int) - 1)
  | _ => false
theorem pairD_two {d : PyData} (h : pairD d = true) : ∃ a b, d = .tuple [a, b] := by
  cases d with
  | tuple ds =>
    match ds, h with
    | [a, b], _ => exact ⟨a, b, rfl⟩
    | [], hp => cases hp
    | [a], hp => cases hp
    | a :: b :: c :: r, hp =>
      have := of_decide_eq_true (show decide (((a :: b :: c :: r).length : Int) = 2) = true from hp)
      simp at this
      omega
  | _ => cases h
end
end My

namespace My
open PySem PySem.Spec PyProof.Rows L2
theorem dg_l {H : Hp} {m c l : Addr} {k : Int} (h : H m = some (.dK (dd c l k))) : DGet H m (.str "left") (some (.ref l)) := by
  have e := DGet.k (k := .inr "left") h
  rw [dd_l] at e
  exact e
theorem dg_c {H : Hp} {m c l : Addr} {k : Int} (h : H m = some (.dK (dd c l k))) : DGet H m (.str "cells") (some (.ref c)) := by
  have e := DGet.k (k := .inr "cells") h
  rw [dd_c] at e
  exact e
theorem dg_a {H : Hp} {m c l : Addr} {k : Int} (h : H m = some (.dK (dd c l k))) : DGet H m (.str "at") (some (.int k)) := by
  have e := DGet.k (k := .inr "at") h
  rw [dd_a] at e
  exact e
theorem dp_l {H : Hp} {m c l p : Addr} {k : Int} (h : H m = some (.dK (dd c l k))) : DPut H m (.str "left") (.ref p) (upd H m (.dK (dd c p k))) := by
  have e := DPut.k (k := .inr "left") (v := .ref p) h (by show 3 < sizeLine; decide)
  rw [dd_pl] at e
  exact e
theorem dp_a {H : Hp} {m c l : Addr} {k z : Int} (h : H m = some (.dK (dd c l k))) : DPut H m (.str "at") (.int z) (upd H m (.dK (dd c l z))) := by
  have e := DPut.k (k := .inr "at") (v := .int z) h (by show 3 < sizeLine; decide)
  rw [dd_pa] at e
  exact e
def pis (ns : List Int) : List PyData := ns.map .int
theorem dp_ints {K : PySem.W.Frag} {H : Hp} : ∀ ns : List Int, DpAll K H (ns.map V.int) (pis ns)
  | [] => .nil
  | n :: r => .cons (.int n) (dp_ints r)
theorem lay_ints : ∀ ns : List Int, PyData.canLayAll0 (pis ns) = true ∧ PyData.depthAll (pis ns) = 0
  | [] => ⟨rfl, rfl⟩
  | n :: r => by
    obtain ⟨h1, h2⟩ := lay_ints r
    exact ⟨by show ((PyData.int n).canLay0 && PyData.canLayAll0 (pis r)) = true; rw [h1]; rfl, by show max 0 (PyData.depthAll (pis r)) = 0; rw [h2]; rfl⟩
theorem shaped_ints (ns : List Int) : SeqAt.shaped (.list (pis ns)) = true := by
  obtain ⟨h1, h2⟩ := lay_ints ns
  show (PyData.canLayAll0 (pis ns) && decide (PyData.depthAll (pis ns) + 1 ≤ 64)) = true
  rw [h1, h2]
  rfl
theorem eqv_nil (ns : List Int) : PyData.eqv (.list (pis ns)) (.list []) = ns.isEmpty := by
  cases ns <;> rfl
section
variable {P : Program} {w : World} {K : PySem.W.Frag} {mg : Str → Option Value} {base : Heap}
theorem ixN_nat {n j : Nat} (h : j < n) : ixN n (j : Int) = some j := by
  unfold ixN
  rw [if_pos (by omega), if_pos (by omega)]
  simp
def sp_law_next : Sp := fun vs H Q _ => ∃ (m c l : Addr) (n : Nat) (many : Int), vs = [.ref m, .int many] ∧ 0 < many ∧ many < 2 ^ 40 ∧ Dr H m c l (n + 1) ∧
  ∀ (r : Int) (l' : Addr) (H' : Hp), 0 ≤ r → r < many → Kp m l H l' H' → Dr H' m c l' n → Q (.int r) H'
theorem ok_law_next (T : Txt K mg) : FnOk P w K mg base CX0 1 T.f__law_next T.d__law_next ["m", "many"] sp_law_next := by
  refine T.F__law_next.ok sc_law_next (fun vs H Q E h => ?_) (fun cdv A outer s H vs Q E hr h => ?_)
  · obtain ⟨m, c, l, n, many, rfl, _⟩ := h
    rfl
  · obtain ⟨m, c, l, n, many, rfl, p1, p2, D, q⟩ := h
    have hu := hu_of hr
    refine ⟨_,
(pss_cons (ps_while PassesOwn.never (PW.pt (pw_and (pt_cmpR (op_neD hr.units) (pe_dget hu (pv 0) pe_str (fun _ _ => rfl)) (pe_lst pa_nil) (nomark _)) (pw_and1 (pt_cmpR op_eq (pe_ix ix_list (pe_dget hu (pv 0) pe_str (fun _ _ => rfl)) pe_int (fun _ _ => rfl)) pe_int (nomark _))))) (pss_one (ps_dput hu (pv 0) pe_str (pe_slice sl_list (pe_dget hu (pv 0) pe_str (fun _ _ => rfl)) (po_some pe_int) po_none) rfl)))
      (pss_cons (ps_if (pt_cmpR (op_neD hr.units) (pe_dget hu (pv 0) pe_str (fun _ _ => rfl)) (pe_lst pa_nil) (nomark _)) (pss_cons (ps_set (i := 2) sc_law_next.nd rfl (Or.inl rfl) (pe_callTy call_int1 (by rfl) T.z_int (by decide +kernel) (pa_cons (pe_ix ix_list (pe_dget hu (pv 0) pe_str (fun _ _ => rfl)) pe_int (fun _ _ => rfl)) pa_nil)))
      (pss_cons (ps_asg (pe_op op_fdivW (pv 2) (pv 1)) (pg_sub (pe_dget hu (pv 0) pe_str (fun _ _ => rfl)) pe_int set_list))
      (pss_one (ps_ret (pe_op op_modN (pv 2) (pv 1)))))) pss_nil)
      (pss_cons (ps_set (i := 3) sc_law_next.nd rfl (Or.inl rfl) (pe_op op_add (pe_dget hu (pv 0) pe_str (fun _ _ => rfl)) pe_int))
      (pss_cons (ps_dput hu (pv 0) pe_str (pv 3) rfl)
      (pss_cons (ps_set (i := 4) sc_law_next.nd rfl (Or.inl rfl) (pe_ifExp (pt_cmpR (op_neD hr.units) (pe_dget hu (pv 0) pe_str (fun _ _ => rfl)) (pe_lst pa_nil) (nomark _)) (pe_ix ix_list (pe_dget hu (pv 0) pe_str (fun _ _ => rfl)) (pe_op op_modN (pe_callTy call_int1 (by rfl) T.z_int (by decide +kernel) (pa_cons (pv 3) pa_nil)) (pe_callB (call_len_seq) (by rfl) T.z_len (by decide +kernel) (pa_cons (pe_dget hu (pv 0) pe_str (fun _ _ => rfl)) pa_nil))) (fun _ _ => rfl)) pe_int))
      (pss_cons (ps_set (i := 5) sc_law_next.nd rfl (Or.inl rfl) (pe_op op_mul (pe_callTy call_int1 (by rfl) T.z_int (by decide +kernel) (pa_cons (pe_op op_add (pe_op op_add (pe_op op_modN (pe_callTy call_int1 (by rfl) T.z_int (by decide +kernel) (pa_cons (pv 4) pa_nil)) pe_int) (pe_op op_mul pe_int (pv 3))) (pe_op op_mul (pe_op op_mul pe_int (pv 3)) (pv 3))) pa_nil)) pe_int))
      (pss_cons (ps_set (i := 5) sc_law_next.nd rfl (Or.inl rfl) (pe_op op_mul (pe_callTy call_int1 (by rfl) T.z_int (by decide +kernel) (pa_cons (pe_op op_add (pe_op op_modN (pe_callTy call_int1 (by rfl) T.z_int (by decide +kernel) (pa_cons (pv 5) pa_nil)) pe_int) (pe_op op_mul pe_int (pv 3))) pa_nil)) pe_int))
      (pss_one (ps_ret (pe_op op_modN (pe_callTy call_int1 (by rfl) T.z_int (by decide +kernel) (pa_cons (pe_op op_fdivN (pe_op op_modN (pe_callTy call_int1 (by rfl) T.z_int (by decide +kernel) (pa_cons (pv 5) pa_nil)) pe_int) pe_int) pa_nil)) (pv 1)))))))))))
, ?_⟩
    refine st_tail (fun σ H' => ∃ (l' : Addr), σ = [some (.ref m), some (.int many), none, none, none, none] ∧ Kp m l H l' H' ∧ Dr H' m c l' (n + 1)) ?_ fun tail => ?_
    · rintro σ H1 ⟨l1, rfl, kp, D1⟩
      obtain ⟨cs, ls, k, h1, h2, h3, ncl, lc, ll, pos, k0, kn⟩ := D1.ex
      have nml : m ≠ l1 := ne_of h1 h3 nofun
      have nmc : m ≠ c := ne_of h1 h2 nofun
      -- if m['left'] != []
      refine ⟨_, rfl, m, .ref l1, rfl, dg_l h1, Nat.zero_le _, fun p hp => ?_⟩
      have g1 := same_new (o := .lst []) hp _ _ h1
      have g2 := same_new (o := .lst []) hp _ _ h2
      have g3 := same_new (o := .lst []) hp _ _ h3
      refine ⟨.list (pis ls), .list [], .lst (SqL.of g3) (dp_ints ls), .lst (SqL.of upd_same) .nil, shaped_ints ls, by rfl, _, rfl, ?_⟩
      rw [eqv_nil]
      have kp2 : Kp m l H l1 (upd H1 p (.lst [])) := kp.trans (Kp.new hp)
      have D2 : Dr (upd H1 p (.lst [])) m c l1 (n + 1) := D1.new hp
      cases ls with
      | cons x r =>
        refine iteT ?_
        have x0 : 0 ≤ x := pos x List.mem_cons_self
        refine ⟨_, rfl, m, .ref l1, rfl, dg_l g1, l1, _, 0, .int x, rfl, rfl, SqL.of g3, atI_nat (j := 0) rfl, .inl ⟨x, rfl, ?_⟩⟩
        -- m['left'][0] = rest // many
        refine ⟨_, rfl, _, rfl, x, many, rfl, rfl, wide_div (b := 40) p1 (by omega) (by decide) (by decide), _, rfl, m, .ref l1, rfl, dg_l g1, l1, _, 0, 0, rfl, rfl, g3, ixN_nat (j := 0) (by simp), ?_⟩
        refine ⟨_, rfl, _, rfl, x, many, rfl, rfl, by omega, ?_⟩
        show Q (.int (x.fmod many)) (upd (upd H1 p (.lst [])) l1 (.lst (((x / many) :: r).map V.int)))
        rw [Int.fmod_eq_emod_of_nonneg x (by omega)]
        refine q _ l1 _ (Int.emod_nonneg _ (by omega)) (Int.emod_lt_of_pos _ p1) ⟨fun b o hb n1 n2 => ?_, kp2.nw, fun b hb => ?_⟩ ⟨cs, (x / many) :: r, k, ?_, ?_, ?_, ncl, lc, ll, ?_, k0, by omega⟩
        · have e := kp2.st b o hb n1 n2
          rw [upd_ne (kp2.off hb n2)]
          exact e
        · refine kp2.dm b ?_
          unfold upd at hb ⊢
          split at hb
          · cases hb
          · exact hb
        · rw [upd_ne nml]; exact g1
        · rw [upd_ne ncl]; exact g2
        · exact upd_same
        · intro y hy
          rcases List.mem_cons.mp hy with e | e
          · rw [e]; exact Int.ediv_nonneg x0 (by omega)
          · exact pos y (List.mem_cons_of_mem _ e)
      | nil =>
        refine iteF ?_
        refine ⟨_, rfl, m, .int k, rfl, dg_a g1, _, _, rfl, rfl, _, rfl, _, rfl, m, _, rfl, dp_a g1, ?_⟩
        have a1 : (upd (upd H1 p (.lst [])) m (.dK (dd c l1 (k + 1)))) m = some (.dK (dd c l1 (k + 1))) := upd_same
        have a2 := (upd_ne (H := upd H1 p (.lst [])) (o := .dK (dd c l1 (k + 1))) nmc.symm).trans g2
        have a3 := (upd_ne (H := upd H1 p (.lst [])) (o := .dK (dd c l1 (k + 1))) nml.symm).trans g3
        have kp3 : Kp m l H l1 (upd (upd H1 p (.lst [])) m (.dK (dd c l1 (k + 1)))) := ⟨fun b o hb n1 n2 => (upd_ne n1).trans (kp2.st b o hb n1 n2), kp2.nw, fun b hb => kp2.dm b (by
          unfold upd at hb ⊢
          split at hb
          · cases hb
          · exact hb)⟩
        have D3 : Dr (upd (upd H1 p (.lst [])) m (.dK (dd c l1 (k + 1)))) m c l1 n := ⟨cs, [], k + 1, a1, a2, a3, ncl, lc, ll, pos, by omega, by omega⟩
        generalize upd (upd H1 p (.lst [])) m (.dK (dd c l1 (k + 1))) = H3 at a1 a2 a3 kp3 D3
        -- cell
        dsimp only
        refine st_tail (fun σ H' => ∃ (z : Int), σ = [some (.ref m), some (.int many), none, some (.int (k + 1)), some (.int z), none] ∧ Kp m l H l1 H' ∧ Dr H' m c l1 n) ?_ fun tail => ?_
        · rintro σ H4 ⟨z, rfl, kp4, D4⟩
          have kb : k + 1 ≤ 1000000 := by omega
          refine ⟨_, rfl, .inl ⟨z, rfl, _, _, rfl, rfl, (show (2147483629 : Int) ≠ 0 by decide), _, rfl, _, _, rfl, rfl, .inl ⟨by decide, by decide⟩, _, _, rfl, rfl, _, rfl, _, _, rfl, rfl, .inl ⟨by decide, by decide⟩,
            _, rfl, _, _, rfl, rfl, .inl ⟨by show -(2 ^ 64) < 19 * (k + 1); omega, by show 19 * (k + 1) < 2 ^ 64; omega⟩, _, _, rfl, rfl, .inl ⟨_, rfl, _, _, rfl, rfl, .inr ⟨by decide, by decide⟩, ?_⟩⟩⟩
          refine ⟨_, rfl, .inl ⟨_, rfl, _, _, rfl, rfl, (show (2147483647 : Int) ≠ 0 by decide), _, rfl, _, _, rfl, rfl, .inl ⟨by decide, by decide⟩, _, _, rfl, rfl, .inl ⟨_, rfl, _, _, rfl, rfl, .inr ⟨by decide, by decide⟩, ?_⟩⟩⟩
          refine ⟨_, rfl, .inl ⟨_, rfl, _, _, rfl, rfl, (show (2147483587 : Int) ≠ 0 by decide), _, _, rfl, rfl, ⟨by decide, by decide⟩, .inl ⟨_, rfl, _, rfl, _, _, rfl, rfl, by omega, ?_⟩⟩⟩
          refine q _ l1 _ ?_ ?_ kp4 D4
          · rw [Int.fmod_eq_emod_of_nonneg _ (by omega)]
            exact Int.emod_nonneg _ (by omega)
          · rw [Int.fmod_eq_emod_of_nonneg _ (by omega)]
            exact Int.emod_lt_of_pos _ p1
        refine ⟨_, rfl, m, .ref c, rfl, dg_c a1, Nat.zero_le _, fun p' hp' => ?_⟩
        have b1 := same_new (o := .lst []) hp' _ _ a1
        have b2 := same_new (o := .lst []) hp' _ _ a2
        refine ⟨.list (pis cs), .list [], .lst (SqL.of b2) (dp_ints cs), .lst (SqL.of upd_same) .nil, shaped_ints cs, by rfl, _, rfl, ?_⟩
        rw [eqv_nil]
        have kp4 : Kp m l H l1 (upd H3 p' (.lst [])) := kp3.trans (Kp.new hp')
        have D4 : Dr (upd H3 p' (.lst [])) m c l1 n := D3.new hp'
        cases cs with
        | nil =>
          refine iteF ?_
          exact tail _ _ ⟨3, rfl, kp4, D4⟩
        | cons y r =>
          refine iteT ?_
          obtain ⟨j, z, hj⟩ : ∃ (j : Nat) (z : Int), (k + 1).fmod (((y :: r).map V.int).length : Int) = (j : Int) ∧ ((y :: r).map V.int)[j]? = some (.int z) := by
            have hl : (0 : Int) < (((y :: r).map V.int).length : Int) := by
              show (0 : Int) < (((r.map V.int).length + 1 : Nat) : Int)
              omega
            rw [Int.fmod_eq_emod_of_nonneg _ (by omega)]
            have e1 := Int.emod_nonneg (k + 1) (b := (((y :: r).map V.int).length : Int)) (by omega)
            have e2 := Int.emod_lt_of_pos (k + 1) hl
            have hj : ((k + 1) % (((y :: r).map V.int).length : Int)).toNat < (y :: r).length := by
              have : ((y :: r).map V.int).length = (y :: r).length := List.length_map ..
              omega
            refine ⟨((k + 1) % (((y :: r).map V.int).length : Int)).toNat, (y :: r)[((k + 1) % (((y :: r).map V.int).length : Int)).toNat], by omega, ?_⟩
            rw [List.getElem?_map, List.getElem?_eq_getElem hj]
            rfl
          refine ⟨_, rfl, m, .ref c, rfl, dg_c b1, _, rfl, .inl ⟨_, rfl, _, rfl, m, .ref c, rfl, dg_c b1, c, _, rfl, .inl (SqL.of b2), _, _, rfl, rfl, by show (((y :: r).map V.int).length : Int) ≠ 0; simp; omega, c, _, _, .int z, rfl, rfl, SqL.of b2, ?_, ?_⟩⟩
          · show atI _ ((k + 1).fmod (((y :: r).map V.int).length : Int)) = some _
            rw [hj.1]
            exact atI_nat hj.2
          exact tail _ _ ⟨z, rfl, kp4, D4⟩
    -- the loop
    refine ⟨fun cnt σ H' => ∃ (l' : Addr) (cs ls : List Int) (k : Int), σ = [some (.ref m), some (.int many), none, none, none, none] ∧ Kp m l H l' H' ∧ ls.length = cnt ∧
      H' m = some (.dK (dd c l' k)) ∧ H' c = some (.lst (cs.map V.int)) ∧ H' l' = some (.lst (ls.map V.int)) ∧ c ≠ l' ∧
      cs.length ≤ 63 ∧ ls.length ≤ 63 ∧ (∀ x ∈ ls, 0 ≤ x) ∧ 0 ≤ k ∧ k + ((n + 1 : Nat) : Int) ≤ 1000000, ?_, ?_⟩
    · obtain ⟨cs, ls, k, r⟩ := D.ex
      exact ⟨ls.length, l, cs, ls, k, rfl, Kp.refl m l H, rfl, r⟩
    rintro cnt σ H1 ⟨l1, cs, ls, k, rfl, kp, hcnt, h1, h2, h3, ncl, lc, ll, pos, k0, kn⟩
    have nml : m ≠ l1 := ne_of h1 h3 nofun
    have nmc : m ≠ c := ne_of h1 h2 nofun
    refine ⟨_, rfl, m, .ref l1, rfl, dg_l h1, Nat.zero_le _, fun p hp => ?_⟩
    have g1 := same_new (o := .lst []) hp _ _ h1
    have g2 := same_new (o := .lst []) hp _ _ h2
    have g3 := same_new (o := .lst []) hp _ _ h3
    have kp2 : Kp m l H l1 (upd H1 p (.lst [])) := kp.trans (Kp.new hp)
    have D2 : Dr (upd H1 p (.lst [])) m c l1 (n + 1) := ⟨cs, ls, k, g1, g2, g3, ncl, lc, ll, pos, k0, kn⟩
    refine ⟨.list (pis ls), .list [], .lst (SqL.of g3) (dp_ints ls), .lst (SqL.of upd_same) .nil, shaped_ints ls, by rfl, _, rfl, ?_⟩
    rw [eqv_nil]
    cases ls with
    | nil =>
      refine iteF ?_
      refine iteF ?_
      exact tail _ _ ⟨l1, rfl, kp2, D2⟩
    | cons x r =>
      refine iteT ?_
      refine ⟨_, rfl, m, .ref l1, rfl, dg_l g1, l1, _, 0, .int x, rfl, rfl, SqL.of g3, atI_nat (j := 0) rfl, rfl, _, rfl, ?_⟩
      refine ite2 (fun e => ?_) (fun e => tail _ _ ⟨l1, rfl, kp2, D2⟩)
      generalize upd H1 p (.lst []) = H3 at g1 g2 g3 kp2 D2
      refine ⟨_, fun σ' H' hN => hN, ?_⟩
      refine ⟨_, rfl, m, .ref l1, rfl, dg_l g1, 1, rfl, l1, _, rfl, SqL.of g3, fun p2 hp2 => ⟨_, rfl, m, _, rfl, dp_l (same_new hp2 _ _ g1), ?_⟩⟩
      have np1 : p2 ≠ m := (ne_of_none g1 hp2).symm
      have np2 : p2 ≠ c := (ne_of_none g2 hp2).symm
      refine ⟨r.length, by rw [← hcnt]; simp, p2, cs, r, k, rfl, ⟨fun b o hb q1 q2 => ?_, ?_, fun b hb => ?_⟩, rfl, upd_same, (upd_ne nmc.symm).trans ((upd_ne np2.symm).trans g2), (upd_ne np1).trans ?_, np2.symm, lc, by simp at ll ⊢; omega, fun y hy => pos y (List.mem_cons_of_mem _ hy), k0, kn⟩
      · have e := kp2.st b o hb q1 q2
        rw [upd_ne q1, upd_ne (ne_of_none e hp2)]
        exact e
      · exact .inr (kp2.dm _ hp2)
      · refine kp2.dm b ?_
        unfold upd at hb
        split at hb
        · cases hb
        · split at hb
          · cases hb
          · exact hb
      · rw [upd_same]
        unfold cutV
        rw [HT.sIx_none, show HT.sIx ((x :: r).map V.int).length 0 (some 1) = min 1 ((x :: r).map V.int).length from HT.sIx_nat _ 0 1, show min 1 ((x :: r).map V.int).length = 1 by simp]
        show some (HO.lst (List.take (((x :: r).map V.int).length - 1) (r.map V.int))) = _
        rw [List.take_of_length_le (by simp)]
def sp_law_begun (K : PySem.W.Frag) : Sp := fun vs H Q _ => ∃ (a : Addr) (ns : List Int), vs = [.ref a] ∧ SqL K H a (ns.map V.int) ∧ ns.length ≤ 63 ∧
  ∀ (m c l : Addr) (H' : Hp), Same H H' → H m = none → H c = none → H l = none → Dr H' m c l 900000 → Q (.ref m) H'
theorem ok_law_begun (T : Txt K mg) : FnOk P w K mg base CX0 1 T.f__law_begun T.d__law_begun ["script"] (sp_law_begun K) := by
  refine T.F__law_begun.ok sc_law_begun (fun vs H Q E h => ?_) (fun cdv A outer s H vs Q E hr h => ?_)
  · obtain ⟨a, ns, rfl, _⟩ := h
    rfl
  · obtain ⟨a, ns, rfl, hS, hl, q⟩ := h
    have hu := hu_of hr
    refine ⟨_,
(pss_one (ps_ret (pe_disp (pps_cons pe_str (pe_callTy call_list_of (by rfl) T.z_list (by decide +kernel) (pa_cons (pv 0) pa_nil)) (pps_cons pe_str (pe_lc (own := [("cell", 1)]) rfl sc_law_begun.nd (pi_list (pv 0)) (blkOk_by (own := [("cell", 1)]) (N := ["script", "cell"]) (sc := defScope s_law_begun) (by decide +kernel)) (fun _ _ _ _ _ => (pg_name (i := 1) sc_law_begun.nd rfl (Or.inl rfl))) (fun _ _ _ _ _ => pts_one (pt_cmpR op_ge (pv 1) (pe_op op_pow pe_int pe_int) (nomark _))) (fun _ _ _ _ _ => (pv 1))) (pps_cons pe_str pe_int pps_nil))) (by rfl) (by rfl) (fun z => by cases z) (by decide))))
, ?_⟩
    intro p hp
    have s1 : Same H (upd H p (.dK [])) := same_new hp
    refine ⟨.ref a, rfl, a, _, rfl, .inl (s1.seq hS), fun c hc => ?_⟩
    have s2 := s1.trans (same_new (o := .lst (ns.map V.int)) hc)
    have ncp : p ≠ c := fun e => by rw [← e, upd_same] at hc; cases hc
    have e1 : upd (upd H p (.dK [])) c (.lst (ns.map V.int)) p = some (.dK []) := (upd_ne ncp).trans upd_same
    have e2 : upd (upd H p (.dK [])) c (.lst (ns.map V.int)) c = some (.lst (ns.map V.int)) := upd_same
    have hc0 : H c = none := s1.free hc
    generalize upd (upd H p (.dK [])) c (.lst (ns.map V.int)) = H1 at s2 e1 e2
    refine ⟨.ref a, rfl, a, rfl, ⟨_, s2.seq hS⟩, fun l hD => ?_⟩
    have nlp : p ≠ l := ne_of_none e1 hD
    have nlc : c ≠ l := ne_of_none e2 hD
    have hl0 : H l = none := s2.free hD
    refine lc_list (K := K) (a := a) (xs := ns.map V.int) (fun i H' => ∃ ls : List Int, ls.length ≤ i ∧ (∀ x ∈ ls, 0 ≤ x) ∧ H' = upd H1 l (.lst (ls.map V.int))) ⟨[], by simp, by simp, rfl⟩ ?_ ?_ ?_
    · rintro i H' _ ⟨ls, _, _, rfl⟩
      exact (same_new hD).seq (s2.seq hS)
    · rintro i x H' hx ⟨ls, h1, h2, rfl⟩
      obtain ⟨z, rfl⟩ : ∃ z, x = V.int z := by
        rw [List.getElem?_map] at hx
        cases e : ns[i]? with
        | none => rw [e] at hx; cases hx
        | some z => rw [e] at hx; exact ⟨z, (Option.some.inj hx).symm⟩
      have hi : i < 63 := by
        have := (List.getElem?_eq_some_iff.mp hx).1
        rw [List.length_map] at this
        omega
      refine ⟨rfl, _, rfl, 10, 18, rfl, rfl, ⟨by decide, by decide, by decide⟩, z, 1000000000000000000, rfl, rfl, _, rfl, ?_⟩
      refine ite2 (fun e => ?_) (fun e => ⟨ls, by omega, h2, rfl⟩)
      refine ⟨.int z, rfl, _, upd_same, ?_, ls ++ [z], ?_, ?_, ?_⟩
      · rw [List.length_map]; exact small1000 (by omega)
      · simp; omega
      · intro y hy
        rcases List.mem_append.mp hy with k | k
        · exact h2 y k
        · rw [List.mem_singleton.mp k]
          have := of_decide_eq_true e
          omega
      · rw [upd_upd, List.map_append]
        rfl
    · rintro H' ⟨ls, h1, h2, rfl⟩
      refine ⟨(upd_ne nlp).trans e1, [(Sum.inr "cells", V.ref c), (Sum.inr "left", V.ref l), (Sum.inr "at", V.int 0)], rfl, by show 3 ≤ 15; decide, ?_⟩
      rw [dd_mk]
      refine q p c l _ (fun b o hb => ?_) hp hc0 hl0 ⟨ns, ls, 0, upd_same, ?_, ?_, nlc, hl, by rw [List.length_map] at h1; omega, h2, by decide, by decide⟩
      · rw [upd_ne (ne_of_none hb hp), upd_ne (ne_of_none hb hl0)]
        exact s2 _ _ hb
      · rw [upd_ne ncp.symm, upd_ne nlc]; exact e2
      · rw [upd_ne nlp.symm, upd_same]
end
end My

namespace My
open PySem PySem.Spec PyProof.Rows L2
/-! ### what stands through draws: tuples -/
def Tp : HO → Prop
  | .tup _ => True
  | .frz _ _ => True
  | _ => False
def Keep (H H' : Hp) : Prop := ∀ b o, H b = some o → Tp o → H' b = some o
theorem Keep.refl (H : Hp) : Keep H H := fun _ _ h _ => h
theorem Keep.trans {H H1 H2 : Hp} (a : Keep H H1) (b : Keep H1 H2) : Keep H H2 := fun c o h t => b c o (a c o h t) t
theorem keep_same {H H' : Hp} (s : Same H H') : Keep H H' := fun b o h _ => s b o h
theorem keep_set {H : Hp} {p : Addr} {ys : List V} {o : HO} (hp : H p = some (.lst ys)) : Keep H (upd H p o) := fun b u h t => by
  have nb : b ≠ p := fun e => by
    rw [e, hp] at h
    cases h
    exact t
  rw [upd_ne nb]
  exact h
theorem keep_draw {m c l l' n : Addr} {H H' : Hp} (k : Kp m l H l' H') (d : Dr H m c l n) : Keep H H' := fun b o h t => by
  obtain ⟨cs, ls, z, h1, h2, h3, r⟩ := d.ex
  refine k.st b o h (fun e => ?_) (fun e => ?_)
  · rw [e, h1] at h
    cases h
    exact t
  · rw [e, h3] at h
    cases h
    exact t
theorem Keep.tup {K : PySem.W.Frag} {H H' : Hp} {a : Addr} {xs : List V} (k : Keep H H') (h : SqT K H a xs) : SqT K H' a xs := by
  rcases h with (h | ⟨u, h⟩) | h
  · exact .inl (.inl (k _ _ h trivial))
  · exact .inl (.inr ⟨u, k _ _ h trivial⟩)
  · exact .inr h
mutual
def noL : PyData → Bool
  | .list _ => false
  | .tuple ds => noLs ds
  | _ => true
def noLs : List PyData → Bool
  | [] => true
  | d :: r => noL d && noLs r
end
mutual
theorem dp_keep {K : PySem.W.Frag} {H H' : Hp} (s : Keep H H') : ∀ (d : PyData) (v : V), noL d = true → Dp K H v d → Dp K H' v d
  | .none, _, _, h => by cases h; exact .non
  | .bool _, _, _, h => by cases h; exact .bl _
  | .int _, _, _, h => by cases h; exact .int _
  | .str _, _, _, h => by cases h; exact .str _
  | .list ds, _, n, h => by cases n
  | .tuple ds, _, n, h => by
    cases h with
    | tup a b => exact .tup (s.tup a) (dpAll_keep s ds _ n b)
  | .dict _, _, _, h => by cases h
theorem dpAll_keep {K : PySem.W.Frag} {H H' : Hp} (s : Keep H H') : ∀ (ds : List PyData) (vs : List V), noLs ds = true → DpAll K H vs ds → DpAll K H' vs ds
  | [], _, _, h => by cases h; exact .nil
  | d :: ds, _, n, h => by
    cases h with
    | cons a b =>
      obtain ⟨n1, n2⟩ := Bool.and_eq_true_iff.mp (show (noL d && noLs ds) = true from n)
      exact .cons (dp_keep s d _ n1 a) (dpAll_keep s ds _ n2 b)
end
theorem noLs_all : ∀ {ds : List PyData}, (∀ d ∈ ds, noL d = true) → noLs ds = true
  | [], _ => rfl
  | d :: r, h => by
    show (noL d && noLs r) = true
    rw [h d List.mem_cons_self, noLs_all fun e he => h e (List.mem_cons_of_mem _ he)]
    rfl
theorem noL_pair (p : Int × Int) : noL (pairI p) = true := rfl
theorem noLs_pairs (ps : List (Int × Int)) : noLs (ps.map pairI) = true := noLs_all fun d hd => by
  obtain ⟨p, _, rfl⟩ := List.mem_map.mp hd
  rfl
theorem noLs_ints (ns : List Int) : noLs (ns.map .int) = true := noLs_all fun d hd => by
  obtain ⟨p, _, rfl⟩ := List.mem_map.mp hd
  rfl
theorem noL_cod (C : Cod) : noL C.dat = true := by
  show (true && (true && (noLs (C.steps.map .int) && (noLs (C.moves.map pairI) && (true && true))))) = true
  rw [noLs_ints, noLs_pairs]
  rfl
/-- an own list through a draw -/
theorem Kp.own {m l l' : Addr} {H H' : Hp} (k : Kp m l H l' H') {p : Addr} {o : HO} (h : H p = some o) (n1 : p ≠ m) (n2 : p ≠ l) : H' p = some o ∧ p ≠ l' := ⟨k.st p o h n1 n2, k.off h n2⟩
/-- a change of an own list: for what stood ahead of it -/
theorem Kp.set {m l l' : Addr} {H H' : Hp} (k : Kp m l H l' H') {p : Addr} {o : HO} (h : H p = none) : Kp m l H l' (upd H' p o) := by
  refine ⟨fun b u hb n1 n2 => ?_, k.nw, fun b hb => ?_⟩
  · rw [upd_ne (ne_of_none hb h)]
    exact k.st b u hb n1 n2
  · unfold upd at hb
    split at hb
    · cases hb
    · exact k.dm b hb
theorem dpAll_app {K : PySem.W.Frag} {H : Hp} : ∀ {xs ys : List V} {ds es : List PyData}, DpAll K H xs ds → DpAll K H ys es → DpAll K H (xs ++ ys) (ds ++ es)
  | _, _, _, _, .nil, h => h
  | _, _, _, _, .cons a b, h => .cons a (dpAll_app b h)
theorem sqt_set {K : PySem.W.Frag} {H : Hp} {p a : Addr} {ys xs : List V} {o : HO} (hp : H p = some (.lst ys)) (h : SqT K H a xs) : SqT K (upd H p o) a xs := (keep_set hp).tup h
theorem dp_mkpair {K : PySem.W.Frag} {H : Hp} {a : Addr} {s : Int × Int} (h : SqT K H a [.int s.1, .int s.2]) : Dp K H (.ref a) (pairI s) := .tup h (.cons (.int _) (.cons (.int _) .nil))
theorem dp_tints {K : PySem.W.Frag} {H : Hp} {a : Addr} {ns : List Int} (h : SqT K H a (ns.map V.int)) : Dp K H (.ref a) (.tuple (ns.map .int)) := by
  refine .tup h ?_
  clear h
  induction ns with
  | nil => exact .nil
  | cons n r ih => exact .cons (.int n) ih
/-- a list of one's own, apart from the drawer -/
structure Own (H : Hp) (m c l p : Addr) (xs : List V) : Prop where
  st : H p = some (.lst xs)
  nm : p ≠ m
  nc : p ≠ c
  nl : p ≠ l
theorem own_mk {H : Hp} {m c l p n : Nat} {xs : List V} (D : Dr H m c l n) (hp : H p = none) : Own (upd H p (.lst xs)) m c l p xs := by
  obtain ⟨cs, ls, z, e1, e2, e3, _⟩ := D.ex
  exact ⟨upd_same, (ne_of_none e1 hp).symm, (ne_of_none e2 hp).symm, (ne_of_none e3 hp).symm⟩
theorem Own.kp {H H' : Hp} {m c l l' p : Addr} {xs : List V} (o : Own H m c l p xs) (k : Kp m l H l' H') : Own H' m c l' p xs := ⟨k.st p _ o.st o.nm o.nl, o.nm, o.nc, k.off o.st o.nl⟩
theorem Own.same {H H' : Hp} {m c l p : Addr} {xs : List V} (o : Own H m c l p xs) (s : Same H H') : Own H' m c l p xs := ⟨s _ _ o.st, o.nm, o.nc, o.nl⟩
theorem Own.set {H : Hp} {m c l p q : Addr} {xs : List V} {u : HO} (o : Own H m c l p xs) (h : p ≠ q) : Own (upd H q u) m c l p xs := ⟨(upd_ne h).trans o.st, o.nm, o.nc, o.nl⟩
theorem Own.put {H : Hp} {m c l p : Addr} {xs ys : List V} (o : Own H m c l p xs) : Own (upd H p (.lst ys)) m c l p ys := ⟨upd_same, o.nm, o.nc, o.nl⟩
theorem Dr.put {H : Hp} {m c l n p : Nat} {xs ys : List V} (D : Dr H m c l n) (o : Own H m c l p xs) : Dr (upd H p (.lst ys)) m c l n := D.set o.nm o.nc o.nl
theorem Own.ne {H : Hp} {m c l p q : Addr} {xs : List V} (o : Own H m c l p xs) (h : H q = none) : p ≠ q := ne_of_none o.st h
theorem at3 {a b c : V} {g : Int} (h0 : 0 ≤ g) (h1 : g < 3) : ∃ v, atI [a, b, c] g = some v ∧ (v = a ∨ v = b ∨ v = c) := by
  have hg : g = 0 ∨ g = 1 ∨ g = 2 := by omega
  rcases hg with e | e | e <;> subst e
  · exact ⟨a, atI_nat (j := 0) rfl, .inl rfl⟩
  · exact ⟨b, atI_nat (j := 1) rfl, .inr (.inl rfl)⟩
  · exact ⟨c, atI_nat (j := 2) rfl, .inr (.inr rfl)⟩
theorem at4 {a b c d : V} {g : Int} (h0 : 0 ≤ g) (h1 : g < 4) : ∃ v, atI [a, b, c, d] g = some v ∧ (v = a ∨ v = b ∨ v = c ∨ v = d) := by
  have hg : g = 0 ∨ g = 1 ∨ g = 2 ∨ g = 3 := by omega
  rcases hg with e | e | e | e <;> subst e
  · exact ⟨a, atI_nat (j := 0) rfl, .inl rfl⟩
  · exact ⟨b, atI_nat (j := 1) rfl, .inr (.inl rfl)⟩
  · exact ⟨c, atI_nat (j := 2) rfl, .inr (.inr (.inl rfl))⟩
  · exact ⟨d, atI_nat (j := 3) rfl, .inr (.inr (.inr rfl))⟩
theorem yes_turn {te : TE} {σ : L2.St} {H : Hp} {Q : VK} {R : Hp → Prop} (h : te σ H Q) : tYes σ H fun b H3 => if b = true then te σ H3 Q else R H3 := by
  show if true = true then te σ H Q else R H
  rw [if_pos rfl]
  exact h
section
variable {P : Program} {w : World} {K : PySem.W.Frag} {mg : Str → Option Value} {base : Heap}
def sp_law_wide (K : PySem.W.Frag) : Sp := fun vs H Q _ => ∃ (m c l : Addr) (k : Nat), vs = [.ref m] ∧ Dr H m c l (k + 100) ∧ ∀ z (C : Cod) l' H', Kp m l H l' H' → Dr H' m c l' k → C.Ok → Dp K H' z C.dat → Q z H'
set_option maxHeartbeats 4000000 in
theorem ok_law_wide (T : Txt K mg) : FnOk P w K mg base CX0 2 T.f__law_wide T.d__law_wide ["m"] (sp_law_wide K) := by
  refine T.F__law_wide.ok sc_law_wide (fun vs H Q E h => ?_) (fun cdv A outer s H vs Q E hr h => ?_)
  · obtain ⟨m, c, l, k, rfl, _⟩ := h
    rfl
  · obtain ⟨m, c, l, k, rfl, D0, q⟩ := h
    refine ⟨_,
(pss_cons (ps_par (i := 1) (j := 2) (by rfl) sc_law_wide.nd rfl rfl (by decide) rfl rfl (pa_cons (pe_lst (pa_cons pe_int (pa_cons (pe_un un_neg pe_int) (pa_cons (pe_un un_neg pe_int) (pa_cons (pe_op op_sub pe_int (pe_call (ok_law_next T) (hr.mono (by decide)) (by rfl) T.g__law_next T.F__law_next.kp T.b__law_next .nil pass0 (pa_cons (pv 0) (pa_cons pe_int pa_nil)))) pa_nil))))) (pa_cons (pe_lst (pa_cons pe_int (pa_cons pe_int (pa_cons pe_int (pa_cons (pe_call (ok_law_next T) (hr.mono (by decide)) (by rfl) T.g__law_next T.F__law_next.kp T.b__law_next .nil pass0 (pa_cons (pv 0) (pa_cons pe_int pa_nil))) pa_nil))))) pa_nil)) (by rfl))
      (pss_cons (ps_setLc (i := 4) (own := [("k", 3)]) rfl sc_law_wide.nd rfl rfl (sw_true rfl rfl rfl (by decide +kernel)) (pi_range1 (by rfl) T.z_range (pa_cons (pe_op op_add pe_int (pe_call (ok_law_next T) (hr.mono (by decide)) (by rfl) T.g__law_next T.F__law_next.kp T.b__law_next .nil pass0 (pa_cons (pv 0) (pa_cons pe_int pa_nil)))) pa_nil)) (blkOk_by (own := [("k", 3)]) (N := ["m", "low", "high", "k", "steps", "moves", "fade"]) (sc := defScope s_law_wide) (by decide +kernel)) (fun _ _ _ _ _ => (pg_name (i := 3) sc_law_wide.nd rfl (Or.inl rfl))) (fun _ _ _ _ _ => pts_nil) (fun _ _ _ _ _ => (pe_ix (My.ix_listK (K := K)) (pe_lst (pa_cons pe_int (pa_cons pe_int (pa_cons (pe_op op_add pe_int (pe_call (ok_law_next T) (hr.mono (by decide)) (by rfl) T.g__law_next T.F__law_next.kp T.b__law_next .nil pass0 (pa_cons (pv 0) (pa_cons pe_int pa_nil)))) pa_nil)))) (pe_call (ok_law_next T) (hr.mono (by decide)) (by rfl) T.g__law_next T.F__law_next.kp T.b__law_next .nil pass0 (pa_cons (pv 0) (pa_cons pe_int pa_nil))) (fun _ _ => rfl))))
      (pss_cons (ps_set (i := 5) sc_law_wide.nd rfl (Or.inl rfl) (pe_lst pa_nil))
      (pss_cons (ps_for PassesOwn.never rfl (pi_range1 (by rfl) T.z_range (pa_cons (pe_op op_add pe_int (pe_call (ok_law_next T) (hr.mono (by decide)) (by rfl) T.g__law_next T.F__law_next.kp T.b__law_next .nil pass0 (pa_cons (pv 0) (pa_cons pe_int pa_nil)))) pa_nil)) (pg_name (i := 3) sc_law_wide.nd rfl (Or.inl rfl)) (pss_one (ps_expr (pe_bm PySem.F.plainAttrs_list PySem.F.slot_list_append PySem.F.type_list_append mt_append (pv 5) (pa_cons (pe_tup (pa_cons (pe_op op_sub (pe_call (ok_law_next T) (hr.mono (by decide)) (by rfl) T.g__law_next T.F__law_next.kp T.b__law_next .nil pass0 (pa_cons (pv 0) (pa_cons pe_int pa_nil))) pe_int) (pa_cons (pe_op op_sub (pe_call (ok_law_next T) (hr.mono (by decide)) (by rfl) T.g__law_next T.F__law_next.kp T.b__law_next .nil pass0 (pa_cons (pv 0) (pa_cons pe_int pa_nil))) pe_int) pa_nil))) pa_nil)))))
      (pss_cons (ps_set (i := 6) sc_law_wide.nd rfl (Or.inl rfl) (pe_ix ix_list (pe_lst (pa_cons pe_int (pa_cons pe_int (pa_cons pe_int (pa_cons (pe_op op_add pe_int (pe_call (ok_law_next T) (hr.mono (by decide)) (by rfl) T.g__law_next T.F__law_next.kp T.b__law_next .nil pass0 (pa_cons (pv 0) (pa_cons pe_int pa_nil)))) pa_nil))))) (pe_call (ok_law_next T) (hr.mono (by decide)) (by rfl) T.g__law_next T.F__law_next.kp T.b__law_next .nil pass0 (pa_cons (pv 0) (pa_cons pe_int pa_nil))) (fun _ _ => rfl)))
      (pss_one (ps_ret (pe_tup (pa_cons (pe_ix ix_list (pv 1) (pe_call (ok_law_next T) (hr.mono (by decide)) (by rfl) T.g__law_next T.F__law_next.kp T.b__law_next .nil pass0 (pa_cons (pv 0) (pa_cons pe_int pa_nil))) (fun _ _ => rfl)) (pa_cons (pe_ix ix_list (pv 2) (pe_call (ok_law_next T) (hr.mono (by decide)) (by rfl) T.g__law_next T.F__law_next.kp T.b__law_next .nil pass0 (pa_cons (pv 0) (pa_cons pe_int pa_nil))) (fun _ _ => rfl)) (pa_cons (pe_callTy call_tuple_of (by rfl) T.z_tuple (by decide +kernel) (pa_cons (pv 4) pa_nil)) (pa_cons (pe_callTy call_tuple_of (by rfl) T.z_tuple (by decide +kernel) (pa_cons (pv 5) pa_nil)) (pa_cons (pv 6) pa_nil)))))))))))))
, ?_⟩
    -- low, high: two menus
    refine ⟨1, rfl, 32768, rfl, _, rfl, m, c, l, k + 99, 32769, rfl, by decide, by decide, D0, fun a l1 H1 a0 a1 kp1 D1 => ⟨0, a, rfl, rfl, by show 4 ≤ sizeLine; decide, fun LA hLA => ?_⟩⟩
    have oA := own_mk (xs := [V.int 0, V.int (-1), V.int (-32768), V.int (0 - a)]) D1 hLA
    have D2 := D1.new (o := .lst [V.int 0, V.int (-1), V.int (-32768), V.int (0 - a)]) hLA
    have kp2 : Kp m l H l1 _ := kp1.trans (Kp.new (o := .lst [V.int 0, V.int (-1), V.int (-32768), V.int (0 - a)]) hLA)
    generalize upd H1 LA (.lst [V.int 0, V.int (-1), V.int (-32768), V.int (0 - a)]) = H2 at oA D2 kp2
    refine ⟨_, rfl, m, c, l1, k + 98, 32768, rfl, by decide, by decide, D2, fun b l3 H3 b0 b1 kp3 D3 => ⟨by show 4 ≤ sizeLine; decide, fun LB hLB => ⟨_, _, rfl, ?_⟩⟩⟩
    have oA := oA.kp kp3
    have oB := own_mk (xs := [V.int 0, V.int 1, V.int 32767, V.int b]) D3 hLB
    have nAB := oA.ne hLB
    have oA := oA.same (same_new (o := .lst [V.int 0, V.int 1, V.int 32767, V.int b]) hLB)
    have D4 := D3.new (o := .lst [V.int 0, V.int 1, V.int 32767, V.int b]) hLB
    have kp4 : Kp m l H l3 _ := (kp2.trans kp3).trans (Kp.new (o := .lst [V.int 0, V.int 1, V.int 32767, V.int b]) hLB)
    generalize upd H3 LB (.lst [V.int 0, V.int 1, V.int 32767, V.int b]) = H4 at oA oB D4 kp4
    -- steps
    refine ⟨_, rfl, m, c, l3, k + 97, 16, rfl, by decide, by decide, D4, fun np l5 H5 n0 n1 kp5 D5 => ⟨1, np, rfl, rfl, _, rfl, by omega, by omega, fun S hS => ?_⟩⟩
    have oA := oA.kp kp5
    have oB := oB.kp kp5
    have kp5 := kp4.trans kp5
    have nAS := oA.ne hS
    have nBS := oB.ne hS
    have hS0 : H S = none := kp5.dm S hS
    refine lc_range (lo := 0) (n := (1 + np).toNat) (fun i H' => ∃ (l' : Addr) (ss : List Int), Own H' m c l' S (ss.map V.int) ∧ ss.length = i ∧ (∀ s ∈ ss, 1 ≤ s ∧ s ≤ 9999) ∧ Kp m l H l' H' ∧ Dr H' m c l' (k + 97 - 2 * i) ∧
        Own H' m c l' LA [V.int 0, V.int (-1), V.int (-32768), V.int (0 - a)] ∧ Own H' m c l' LB [V.int 0, V.int 1, V.int 32767, V.int b])
      ⟨l5, [], own_mk D5 hS, rfl, by simp, kp5.trans (Kp.new hS), D5.new hS, oA.same (same_new hS), oB.same (same_new hS)⟩ ?_ ?_
    · rintro i H' hi ⟨l', ss, oS, hlen, hss, kp, D, oA, oB⟩
      have hi' : i < 16 := by omega
      refine ⟨rfl, yes_turn ?_⟩
      have e1 : k + 97 - 2 * i = k + 97 - 2 * (i + 1) + 2 := by omega
      rw [e1] at D
      refine ⟨_, rfl, m, c, l', k + 97 - 2 * (i + 1) + 1, 9999, rfl, by decide, by decide, D, fun r l6 H6 r0 r1 kp6 D6 => ⟨1, r, rfl, rfl, by show 3 ≤ sizeLine; decide, fun L hL => ?_⟩⟩
      have sL := same_new (o := .lst [V.int 1, V.int 9999, V.int (1 + r)]) hL
      have oL := own_mk (xs := [V.int 1, V.int 9999, V.int (1 + r)]) D6 hL
      have oS := (oS.kp kp6).same sL
      have oA := (oA.kp kp6).same sL
      have oB := (oB.kp kp6).same sL
      have D7 := D6.new (o := .lst [V.int 1, V.int 9999, V.int (1 + r)]) hL
      have kp7 := (kp.trans kp6).trans (Kp.new (o := .lst [V.int 1, V.int 9999, V.int (1 + r)]) hL)
      generalize upd H6 L (.lst [V.int 1, V.int 9999, V.int (1 + r)]) = H7 at oL oS oA oB D7 kp7
      refine ⟨_, rfl, m, c, l6, k + 97 - 2 * (i + 1), 3, rfl, by decide, by decide, D7, fun g l8 H8 g0 g1 kp8 D8 => ?_⟩
      have oL := oL.kp kp8
      have oS := oS.kp kp8
      have oA := oA.kp kp8
      have oB := oB.kp kp8
      obtain ⟨v, hat, hv⟩ := at3 (a := V.int 1) (b := V.int 9999) (c := V.int (1 + r)) g0 g1
      obtain ⟨st, rfl, hst⟩ : ∃ st, v = V.int st ∧ (1 ≤ st ∧ st ≤ 9999) := by
        rcases hv with e | e | e
        · exact ⟨1, e, by decide, by decide⟩
        · exact ⟨9999, e, by decide, by decide⟩
        · exact ⟨1 + r, e, by omega, by omega⟩
      refine ⟨L, _, g, .int st, rfl, rfl, SqL.of oL.st, hat, _, oS.st, ?_, l8, ss ++ [st], ?_, by simp [hlen], ?_, (kp7.trans kp8).set hS0, D8.put oS, oA.set nAS, oB.set nBS⟩
      · rw [List.length_map]
        exact small1000 (by omega)
      · rw [List.map_append]
        exact oS.put
      · intro z hz
        rcases List.mem_append.mp hz with h | h
        · exact hss z h
        · rw [List.mem_singleton.mp h]
          exact hst
    · rintro H6 ⟨l6, ss, oS, hslen, hss, kp6, D6, oA, oB⟩
      have D6 : Dr H6 m c l6 (k + 60) := D6.less (by omega)
      -- moves
      refine ⟨Nat.zero_le _, fun M hM => ?_⟩
      have nSM := oS.ne hM
      have nAM := oA.ne hM
      have nBM := oB.ne hM
      have sM := same_new (o := .lst []) hM
      have oM := own_mk (xs := []) D6 hM
      have oS := oS.same sM
      have oA := oA.same sM
      have oB := oB.same sM
      have hM0 : H M = none := kp6.dm M hM
      have D7 := D6.new (o := .lst []) hM
      have kp7 := kp6.trans (Kp.new (o := .lst []) hM)
      generalize upd H6 M (.lst []) = H7 at oM oS oA oB D7 kp7
      refine ⟨_, rfl, m, c, l6, k + 59, 15, rfl, by decide, by decide, D7, fun nm l8 H8 nm0 nm1 kp8 D8 => ⟨2, nm, rfl, rfl, _, rfl, by omega, by omega, ?_⟩⟩
      have oM := oM.kp kp8
      have oS := oS.kp kp8
      have oA := oA.kp kp8
      have oB := oB.kp kp8
      refine for_range (lo := 0) (n := (2 + nm).toNat) (fun i σ H' => ∃ (y : Option V) (l' : Addr) (ms : List V) (mvs : List (Int × Int)),
          σ = [some (.ref m), some (.ref LA), some (.ref LB), y, some (.ref S), some (.ref M), none] ∧
          Own H' m c l' M ms ∧ DpAll K H' ms (mvs.map pairI) ∧ mvs.length = i ∧ (∀ p ∈ mvs, (-32 ≤ p.1 ∧ p.1 ≤ 32) ∧ (-15 ≤ p.2 ∧ p.2 ≤ 15)) ∧
          Own H' m c l' S (ss.map V.int) ∧ Kp m l H l' H' ∧ Dr H' m c l' (k + 59 - 2 * i) ∧
          Own H' m c l' LA [V.int 0, V.int (-1), V.int (-32768), V.int (0 - a)] ∧ Own H' m c l' LB [V.int 0, V.int 1, V.int 32767, V.int b])
        ⟨none, l8, [], [], rfl, oM, .nil, rfl, by simp, oS, kp7.trans kp8, D8, oA, oB⟩ ?_ ?_
      · rintro i σ H9 hi ⟨y, l9, ms, mvs, rfl, oM, hD, hlen, hb, oS, kp9, D9, oA, oB⟩
        have hi' : i < 16 := by omega
        have e1 : k + 59 - 2 * i = k + 59 - 2 * (i + 1) + 2 := by omega
        rw [e1] at D9
        refine ⟨.ref M, rfl, .inl ⟨rfl, _, SqL.of oM.st⟩, ?_⟩
        refine ⟨_, rfl, m, c, l9, k + 59 - 2 * (i + 1) + 1, 65, rfl, by decide, by decide, D9, fun r1 l10 H10 r10 r11 kp10 D10 => ⟨r1, 32, rfl, rfl, ?_⟩⟩
        refine ⟨_, rfl, m, c, l10, k + 59 - 2 * (i + 1), 31, rfl, by decide, by decide, D10, fun r2 l11 H11 r20 r21 kp11 D11 => ⟨r2, 15, rfl, rfl, by show 2 ≤ sizeLine; decide, fun p hp => ?_⟩⟩
        have sp := same_new (o := .tup [.int (r1 - 32), .int (r2 - 15)]) hp
        have oM := ((oM.kp kp10).kp kp11).same sp
        have oS := ((oS.kp kp10).kp kp11).same sp
        have oA := ((oA.kp kp10).kp kp11).same sp
        have oB := ((oB.kp kp10).kp kp11).same sp
        have hD11 : DpAll K H11 ms (mvs.map pairI) := dpAll_keep (keep_draw kp11 D10) _ _ (noLs_pairs _) (dpAll_keep (keep_draw kp10 D9) _ _ (noLs_pairs _) hD)
        refine ⟨M, ms, _, rfl, rfl, oM.st, ?_, ?_⟩
        · rw [dpAll_len hD, List.length_map, hlen]
          exact small1000 (by omega)
        · refine ⟨_, l11, ms ++ [.ref p], mvs ++ [(r1 - 32, r2 - 15)], rfl, oM.put, ?_, by simp [hlen], ?_, oS.set nSM, (((kp9.trans kp10).trans kp11).trans (Kp.new hp)).set hM0, (D11.new hp).put oM, oA.set nAM, oB.set nBM⟩
          · rw [List.map_append]
            exact dpAll_app (dpAll_keep (keep_set oM.st) _ _ (noLs_pairs _) (dpAll_same sp _ _ hD11)) (.cons (dp_mkpair (s := (r1 - 32, r2 - 15)) (sqt_set oM.st upd_tup)) .nil)
          · intro x hx
            rcases List.mem_append.mp hx with h | h
            · exact hb x h
            · rw [List.mem_singleton.mp h]
              exact ⟨⟨by show -32 ≤ r1 - 32; omega, by show r1 - 32 ≤ 32; omega⟩, by show -15 ≤ r2 - 15; omega, by show r2 - 15 ≤ 15; omega⟩
      · rintro σ H9 ⟨y, l9, ms, mvs, rfl, oM, hD, hlen, hb, oS, kp9, D9, oA, oB⟩
        have D9 : Dr H9 m c l9 (k + 4) := D9.less (by omega)
        -- fade
        refine ⟨_, rfl, m, c, l9, k + 3, 98, rfl, by decide, by decide, D9, fun f l10 H10 f0 f1 kp10 D10 => ⟨2, f, rfl, rfl, by show 4 ≤ sizeLine; decide, fun L hL => ?_⟩⟩
        have sL := same_new (o := .lst [V.int 0, V.int 2, V.int 99, V.int (2 + f)]) hL
        have oL := own_mk (xs := [V.int 0, V.int 2, V.int 99, V.int (2 + f)]) D10 hL
        have oM := (oM.kp kp10).same sL
        have oS := (oS.kp kp10).same sL
        have oA := (oA.kp kp10).same sL
        have oB := (oB.kp kp10).same sL
        have hD := dpAll_same sL _ _ (dpAll_keep (keep_draw kp10 D9) _ _ (noLs_pairs _) hD)
        have D11 := D10.new (o := .lst [V.int 0, V.int 2, V.int 99, V.int (2 + f)]) hL
        have kp11 := (kp9.trans kp10).trans (Kp.new (o := .lst [V.int 0, V.int 2, V.int 99, V.int (2 + f)]) hL)
        generalize upd H10 L (.lst [V.int 0, V.int 2, V.int 99, V.int (2 + f)]) = H11 at oL oM oS oA oB hD D11 kp11
        refine ⟨_, rfl, m, c, l10, k + 2, 4, rfl, by decide, by decide, D11, fun g l12 H12 g0 g1 kp12 D12 => ?_⟩
        have oL := oL.kp kp12
        have oM := oM.kp kp12
        have oS := oS.kp kp12
        have oA := oA.kp kp12
        have oB := oB.kp kp12
        have hD := dpAll_keep (keep_draw kp12 D11) _ _ (noLs_pairs _) hD
        have kp12 := kp11.trans kp12
        obtain ⟨v, hat, hv⟩ := at4 (a := V.int 0) (b := V.int 2) (c := V.int 99) (d := V.int (2 + f)) g0 g1
        obtain ⟨fd, rfl, hfd⟩ : ∃ fd, v = V.int fd ∧ (fd = 0 ∨ (2 ≤ fd ∧ fd ≤ 99)) := by
          rcases hv with e | e | e | e
          · exact ⟨0, e, .inl rfl⟩
          · exact ⟨2, e, .inr ⟨by decide, by decide⟩⟩
          · exact ⟨99, e, .inr ⟨by decide, by decide⟩⟩
          · exact ⟨2 + f, e, .inr ⟨by omega, by omega⟩⟩
        refine ⟨L, _, g, .int fd, rfl, rfl, SqL.of oL.st, hat, ?_⟩
        -- low[..], high[..]
        refine ⟨_, rfl, _, rfl, m, c, l12, k + 1, 4, rfl, by decide, by decide, D12, fun g1' l13 H13 g10 g11 kp13 D13 => ?_⟩
        have oM := oM.kp kp13
        have oS := oS.kp kp13
        have oA := oA.kp kp13
        have oB := oB.kp kp13
        have hD := dpAll_keep (keep_draw kp13 D12) _ _ (noLs_pairs _) hD
        have kp13 := kp12.trans kp13
        obtain ⟨v1, hat1, hv1⟩ := at4 (a := V.int 0) (b := V.int (-1)) (c := V.int (-32768)) (d := V.int (0 - a)) g10 g11
        obtain ⟨lo, rfl, hlo⟩ : ∃ lo, v1 = V.int lo ∧ (-32768 ≤ lo ∧ lo ≤ 0) := by
          rcases hv1 with e | e | e | e
          · exact ⟨0, e, by decide, by decide⟩
          · exact ⟨-1, e, by decide, by decide⟩
          · exact ⟨-32768, e, by decide, by decide⟩
          · exact ⟨0 - a, e, by omega, by omega⟩
        refine ⟨LA, _, g1', .int lo, rfl, rfl, SqL.of oA.st, hat1, ?_⟩
        refine ⟨_, rfl, _, rfl, m, c, l13, k, 4, rfl, by decide, by decide, D13, fun g2 l14 H14 g20 g21 kp14 D14 => ?_⟩
        have oM := oM.kp kp14
        have oS := oS.kp kp14
        have oB := oB.kp kp14
        have hD := dpAll_keep (keep_draw kp14 D13) _ _ (noLs_pairs _) hD
        have kp14 := kp13.trans kp14
        obtain ⟨v2, hat2, hv2⟩ := at4 (a := V.int 0) (b := V.int 1) (c := V.int 32767) (d := V.int b) g20 g21
        obtain ⟨hi2, rfl, hhi⟩ : ∃ z, v2 = V.int z ∧ (0 ≤ z ∧ z ≤ 32767) := by
          rcases hv2 with e | e | e | e
          · exact ⟨0, e, by decide, by decide⟩
          · exact ⟨1, e, by decide, by decide⟩
          · exact ⟨32767, e, by decide, by decide⟩
          · exact ⟨b, e, by omega, by omega⟩
        refine ⟨LB, _, g2, .int hi2, rfl, rfl, SqL.of oB.st, hat2, ?_⟩
        -- the tuple
        refine ⟨.ref S, rfl, S, _, rfl, .inl ⟨SqL.of oS.st, fun ts hts => ?_⟩⟩
        have s15 := same_new (o := .tup (ss.map V.int)) hts
        have oM := oM.same s15
        have t15 : (upd H14 ts (.tup (ss.map V.int))) ts = some (.tup (ss.map V.int)) := upd_same
        have hD := dpAll_same s15 _ _ hD
        have kp15 := kp14.trans (Kp.new (o := .tup (ss.map V.int)) hts)
        have D15 := D14.new (o := .tup (ss.map V.int)) hts
        generalize upd H14 ts (.tup (ss.map V.int)) = H15 at oM t15 hD kp15 D15
        refine ⟨.ref M, rfl, M, _, rfl, .inl ⟨SqL.of oM.st, fun tm htm => ?_⟩⟩
        have s16 := same_new (o := .tup ms) htm
        have t16 := s16 _ _ t15
        have m16 : (upd H15 tm (.tup ms)) tm = some (.tup ms) := upd_same
        have hD := dpAll_same s16 _ _ hD
        have kp16 := kp15.trans (Kp.new (o := .tup ms) htm)
        have D16 := D15.new (o := .tup ms) htm
        generalize upd H15 tm (.tup ms) = H16 at t16 m16 hD kp16 D16
        refine ⟨_, rfl, by show 5 ≤ sizeLine; decide, fun p hp => ?_⟩
        have s17 := same_new (o := .tup [V.int lo, V.int hi2, V.ref ts, V.ref tm, V.int fd]) hp
        refine q _ ⟨lo, hi2, ss, mvs, fd⟩ l14 _ (kp16.trans (Kp.new hp)) (D16.new hp) ⟨hlo.1, hlo.2, hhi.1, hhi.2, by show 1 ≤ ss.length; omega, by show ss.length ≤ 16; omega, hss, by show 2 ≤ mvs.length; omega, by show mvs.length ≤ 16; omega, hb, hfd⟩ ?_
        refine .tup upd_tup (.cons (.int _) (.cons (.int _) (.cons ?_ (.cons ?_ (.cons (.int _) .nil)))))
        · exact dp_tints (.inl (.inl (s17 _ _ t16)))
        · exact .tup (.inl (.inl (s17 _ _ m16))) (dpAll_same s17 _ _ hD)
end
end My

namespace My
open PySem PySem.Spec PyProof.Rows L2
/-! ### the size of what is written out -/
structure Sh (k n : Nat) (d : PyData) : Prop where
  sh : d.showable = true
  nd : d.hasDict = false
  dp : d.depth ≤ k
  le : d.shown.length ≤ n
theorem Sh.mono {k n k' n' : Nat} {d : PyData} (h : Sh k n d) (h1 : k ≤ k') (h2 : n ≤ n') : Sh k' n' d := ⟨h.sh, h.nd, Nat.le_trans h.dp h1, Nat.le_trans h.le h2⟩
theorem sh_int {i : Int} (h : i.natAbs < 2 ^ 64) : Sh 0 1921 (.int i) := by
  have hl : i.natAbs.log2 < 1920 := Nat.lt_trans (PySem.Flt.log2_lt_of (by decide) h) (by decide)
  exact ⟨decide_eq_true hl, rfl, Nat.le_refl _, int_text_len_1921 hl⟩
theorem sh_all {k n : Nat} : ∀ {ds : List PyData}, (∀ d ∈ ds, Sh k n d) → PyData.showableAll ds = true ∧ PyData.hasDictAll ds = false ∧ PyData.depthAll ds ≤ k ∧ piled (PyData.shownAll ds) ≤ ds.length * (n + 2) ∧ (PyData.shownAll ds).length = ds.length
  | [], _ => ⟨rfl, rfl, Nat.zero_le _, Nat.zero_le _, rfl⟩
  | d :: r, h => by
    obtain ⟨h1, h2, h3, h4, h5⟩ := sh_all fun e he => h e (List.mem_cons_of_mem d he)
    have hd := h d List.mem_cons_self
    refine ⟨?_, ?_, ?_, ?_, ?_⟩
    · show (d.showable && PyData.showableAll r) = true
      rw [hd.sh, h1]
      rfl
    · show (d.hasDict || PyData.hasDictAll r) = false
      rw [hd.nd, h2]
      rfl
    · show max d.depth (PyData.depthAll r) ≤ k
      exact Nat.max_le.mpr ⟨hd.dp, h3⟩
    · show piled (d.shown :: PyData.shownAll r) ≤ (r.length + 1) * (n + 2)
      rw [piled_cons, Nat.succ_mul]
      have := hd.le
      omega
    · show (PyData.shownAll r).length + 1 = r.length + 1
      rw [h5]
theorem sh_tup {k n : Nat} {ds : List PyData} (h : ∀ d ∈ ds, Sh k n d) : Sh (k + 1) (ds.length * (n + 2) + 3) (.tuple ds) := by
  obtain ⟨h1, h2, h3, h4, h5⟩ := sh_all h
  refine ⟨h1, h2, Nat.succ_le_succ h3, ?_⟩
  show (tupleText (PyData.shownAll ds)).length ≤ _
  unfold tupleText
  rw [strLen_append, strLen_append]
  have e1 : ((("(" : String) : Str)).length = 1 := rfl
  have e3 : (((if (PyData.shownAll ds).length == 1 then ",)" else ")" : String) : Str)).length ≤ 2 := by split <;> decide
  rw [e1]
  by_cases hn : PyData.shownAll ds = []
  · rw [hn] at e3 ⊢
    have : (Str.join ", " []).length = 0 := rfl
    omega
  · have := join_length_add (PyData.shownAll ds) hn
    omega
theorem sh_list2 {k n : Nat} {a b : PyData} (h1 : Sh k n a) (h2 : Sh k n b) : Sh (k + 1) (2 * n + 4) (.list [a, b]) := by
  refine ⟨?_, ?_, ?_, ?_⟩
  · show (a.showable && (b.showable && true)) = true
    rw [h1.sh, h2.sh]
    rfl
  · show (a.hasDict || (b.hasDict || false)) = false
    rw [h1.nd, h2.nd]
    rfl
  · show max a.depth (max b.depth 0) + 1 ≤ k + 1
    have := h1.dp
    have := h2.dp
    omega
  · show (listText [a.shown, b.shown]).length ≤ _
    have e : listText [a.shown, b.shown] = (((((Str.ofString "[" ++ Str.ofString "") ++ a.shown) ++ Str.ofString ", ") ++ b.shown) ++ Str.ofString "]") := rfl
    rw [e, strLen_append, strLen_append, strLen_append, strLen_append, strLen_append]
    have e0 : (Str.ofString "").length = 0 := by decide
    have e1 : (Str.ofString "[").length = 1 := by decide
    have e2 : (Str.ofString "]").length = 1 := by decide
    have e3 : (Str.ofString ", ").length = 2 := by decide
    have := h1.le
    have := h2.le
    omega
theorem sh_ints {ns : List Int} (h : ∀ z ∈ ns, z.natAbs < 2 ^ 64) : Sh 1 (ns.length * 1923 + 3) (.tuple (ns.map .int)) := by
  have := sh_tup (k := 0) (n := 1921) (ds := ns.map .int) fun d hd => by
    obtain ⟨z, hz, rfl⟩ := List.mem_map.mp hd
    exact sh_int (h z hz)
  rw [List.length_map] at this
  exact this
theorem sh_pair {s : Int × Int} (h1 : s.1.natAbs < 2 ^ 64) (h2 : s.2.natAbs < 2 ^ 64) : Sh 1 4000 (pairI s) :=
  (sh_tup (k := 0) (n := 1921) (ds := [.int s.1, .int s.2]) fun d hd => by
    rcases List.mem_cons.mp hd with e | e
    · rw [e]; exact sh_int h1
    · rw [List.mem_singleton.mp e]; exact sh_int h2).mono (Nat.le_refl _) (by simp)
theorem sz_line {n : Nat} (h : n ≤ 1000000) : n ≤ sizeLine := Nat.le_trans h (by decide)
/-! ### slices and sums of tuples -/
theorem cut_take {xs : List V} {n : Nat} (h : n ≤ xs.length) : cutV xs none (some (n : Int)) = xs.take n := by
  unfold cutV
  rw [HT.sIx_none, HT.sIx_nat, Nat.min_eq_left h]
  rfl
theorem cut_drop {xs : List V} {n : Nat} (h : n ≤ xs.length) : cutV xs (some (n : Int)) none = xs.drop n := by
  unfold cutV
  rw [HT.sIx_none, HT.sIx_nat, Nat.min_eq_left h]
  exact List.take_of_length_le (by simp)
/-- repr(..) of data that is small -/
theorem rr {K : PySem.W.Frag} {H : Hp} {v : V} {d : PyData} {k n : Nat} {Q : VK} (h : Dp K H v d) (s : Sh k n d) (hk : k ≤ 60) (hn : n ≤ 1000000) (q : Q (.str d.shown) H) : rRepr K [v] H Q :=
  ⟨v, d, rfl, h, s.sh, s.nd, Nat.le_trans s.dp hk, sz_line (Nat.le_trans s.le hn), q⟩
/-- x != y of equal texts -/
theorem ne_same {x : Str} {A B : Hp → Prop} {H : Hp} (q : B H) : rNe (.str x) (.str x) H fun v H' => ∃ c, v = .bl c ∧ if c = true then A H' else B H' := by
  refine ⟨rfl, false, ?_, iteF q⟩
  show V.bl (!decide (V.str x = V.str x)) = V.bl false
  rw [decide_eq_true rfl]
  rfl
theorem eq_same {x : Str} {H : Hp} {Q : VK} (q : Q (.bl true) H) : rEq (.str x) (.str x) H Q := by
  refine ⟨rfl, ?_⟩
  rw [decide_eq_true rfl]
  exact q
theorem sl_takeV {K : PySem.W.Frag} {H : Hp} {a : Addr} {xs : List V} {n : Nat} {Q : VK} (h : SqT K H a xs) (hn : n ≤ xs.length) (k : ∀ b H', Same H H' → SqT K H' b (xs.take n) → Q (.ref b) H') :
    rSlA K (.ref a) none (some (n : Int)) H Q := by
  refine ⟨a, xs, rfl, h, fun ⟨_, e⟩ => ?_, fun _ p hp => ?_⟩
  · rw [HT.sIx_nat, Nat.min_eq_left hn] at e
    refine k _ H (Same.refl H) ?_
    rw [e, List.take_length]
    exact h
  · refine k _ _ (same_new hp) ?_
    rw [cut_take (by omega)]
    exact upd_tup
theorem sl_dropV {K : PySem.W.Frag} {H : Hp} {σ : L2.St} {a : Addr} {xs : List V} {n : Nat} {Q : VK} (h : SqT K H a xs) (hn : n ≤ xs.length) (k : ∀ b H', Same H H' → SqT K H' b (xs.drop n) → Q (.ref b) H') :
    tNoPart σ H fun u H3 => rSlA K (.ref a) (some (n : Int)) u H3 Q := by
  refine ⟨a, xs, rfl, h, fun ⟨e, _⟩ => ?_, fun _ p hp => ?_⟩
  · rw [HT.sIx_nat, Nat.min_eq_left hn] at e
    refine k _ H (Same.refl H) ?_
    rw [e]
    exact h
  · refine k _ _ (same_new hp) ?_
    rw [cut_drop (by omega)]
    exact upd_tup
theorem catV {K : PySem.W.Frag} {H : Hp} {a b : Addr} {xs ys : List V} {Q : VK} (ha : SqT K H a xs) (hb : SqT K H b ys) (hl : xs.length + ys.length ≤ sizeLine)
    (k : ∀ p H', Same H H' → SqT K H' p (xs ++ ys) → Q (.ref p) H') : rCatA K (.ref a) (.ref b) H Q := by
  refine ⟨a, b, _, _, rfl, rfl, ha, hb, hl, fun e => ?_, fun _ e => ?_, fun _ _ p hp => ?_⟩
  · refine k _ H (Same.refl H) ?_
    rw [e]
    exact hb
  · refine k _ H (Same.refl H) ?_
    rw [e, List.append_nil]
    exact ha
  · exact k _ _ (same_new hp) upd_tup
theorem neD_f {K : PySem.W.Frag} {H : Hp} {x y : V} {d : PyData} {Z : Bool → Hp → Prop} (hx : Dp K H x d) (hy : Dp K H y d) (hs : SeqAt.shaped d = true) (q : Z false H) :
    rNeD K x y H fun v H' => ∃ k, v = .bl k ∧ Z k H' := by
  refine ⟨d, d, hx, hy, hs, hs, false, ?_, q⟩
  rw [SeqAt.eqv_refl d (SeqAt.canLay_of_shaped hs)]
  rfl
theorem eqD_t {K : PySem.W.Frag} {H : Hp} {x y : V} {d : PyData} {Q : VK} (hx : Dp K H x d) (hy : Dp K H y d) (hs : SeqAt.shaped d = true) (q : Q (.bl true) H) : rEqD K x y H Q := by
  refine ⟨d, d, hx, hy, hs, hs, ?_⟩
  rw [SeqAt.eqv_refl d (SeqAt.canLay_of_shaped hs)]
  exact q

theorem sh_cod {C : Cod} (O : C.Ok) : Sh 3 400000 C.dat := by
  have a : Sh 2 70000 (.tuple (C.steps.map .int)) := (sh_ints fun z hz => by
    have := O.s3 z hz
    omega).mono (by decide) (by have := O.s2; omega)
  have b : Sh 2 70000 (.tuple (C.moves.map pairI)) := by
    refine (sh_tup (k := 1) (n := 4000) (ds := C.moves.map pairI) fun d hd => ?_).mono (Nat.le_refl _) (by rw [List.length_map]; have := O.m2; omega)
    obtain ⟨p, hp, rfl⟩ := List.mem_map.mp hd
    have := O.m3 p hp
    exact sh_pair (by omega) (by omega)
  have l := O.l1
  have l2 := O.l2
  have h1 := O.h1
  have h2 := O.h2
  have i : ∀ z : Int, z.natAbs < 2 ^ 64 → Sh 2 70000 (.int z) := fun z hz => (sh_int hz).mono (by decide) (by decide)
  refine (sh_tup (k := 2) (n := 70000) (ds := [.int C.low, .int C.high, .tuple (C.steps.map .int), .tuple (C.moves.map pairI), .int C.fade]) fun d hd => ?_).mono (Nat.le_refl _) (by simp)
  rcases List.mem_cons.mp hd with e | hd
  · rw [e]; exact i _ (by omega)
  rcases List.mem_cons.mp hd with e | hd
  · rw [e]; exact i _ (by omega)
  rcases List.mem_cons.mp hd with e | hd
  · rw [e]; exact a
  rcases List.mem_cons.mp hd with e | hd
  · rw [e]; exact b
  · rw [List.mem_singleton.mp hd]; exact i _ (by have := O.f1; omega)
end My

set_option pp.maxSteps 1500
namespace My
open PySem PySem.Spec PyProof.Rows L2
def strV (ws : List Str) : List V := ws.map V.str
theorem strs_take {ws : List Str} {i : Nat} {w : Str} (h : ws[i]? = some w) : strV (ws.take (i + 1)) = strV (ws.take i) ++ [V.str w] := by
  have hi := (List.getElem?_eq_some_iff.mp h).1
  have e : ws.take (i + 1) = ws.take i ++ [w] := by
    rw [List.take_succ, h]
    rfl
  rw [e]
  exact List.map_append
theorem map_get {α β : Type} {f : α → β} {xs : List α} {i : Nat} {y : β} (h : (xs.map f)[i]? = some y) : ∃ x, xs[i]? = some x ∧ y = f x := by
  rw [List.getElem?_map] at h
  cases e : xs[i]? with
  | none => rw [e] at h; cases h
  | some x => rw [e] at h; exact ⟨x, rfl, (Option.some.inj h).symm⟩
theorem get_map {α β : Type} {f : α → β} {xs : List α} {i : Nat} {x : α} (h : xs[i]? = some x) : (xs.map f)[i]? = some (f x) := by
  rw [List.getElem?_map, h]
  rfl
theorem get_mem {α : Type} {xs : List α} {i : Nat} {x : α} (h : xs[i]? = some x) : x ∈ xs := List.mem_of_getElem? h
/-- the words of a coder's rows -/
def Cod.words (C : Cod) : List (List Str) := levW C.low C.high C.fade :: stepW C.steps :: C.moves.map movW
def Cod.txt (C : Cod) : Str := textT (C.words.map rowT)
structure Cod.Sm (C : Cod) : Prop where
  l : C.low.natAbs < 100000
  h : C.high.natAbs < 100000
  f : C.fade.natAbs < 100000
  s : ∀ n ∈ C.steps, n.natAbs < 100000
  m : ∀ p ∈ C.moves, p.1.natAbs < 100000 ∧ p.2.natAbs < 100000
  sn : C.steps ≠ []
theorem Cod.Ok.sm {C : Cod} (O : C.Ok) : C.Sm where
  l := by have := O.l1; have := O.l2; omega
  h := by have := O.h1; have := O.h2; omega
  f := by have := O.f1; omega
  s := fun n hn => by have := O.s3 n hn; omega
  m := fun p hp => by have := O.m3 p hp; omega
  sn := fun e => by have := O.s1; rw [e] at this; exact absurd this (by decide)
theorem row_le {ws : List Str} (h : ∀ w ∈ ws, w.length ≤ 6) (hl : ws.length ≤ 17) : (rowT ws).length ≤ 119 := Nat.le_trans (row_len h) (by omega)
theorem sI_6 {n : Int} (h : n.natAbs < 100000) : (sI n).length ≤ 6 := sI_len h
theorem words_6 {C : Cod} (S : C.Sm) : ∀ ws ∈ C.words, ∀ w ∈ ws, w.length ≤ 6 := by
  intro ws hws w hw
  rcases List.mem_cons.mp hws with e | hws
  · subst e
    rcases List.mem_cons.mp hw with e | hw
    · rw [e]; decide +kernel
    rcases List.mem_cons.mp hw with e | hw
    · rw [e]; exact sI_len S.l
    rcases List.mem_cons.mp hw with e | hw
    · rw [e]; exact sI_len S.h
    · rw [List.mem_singleton.mp hw]; exact sI_len S.f
  rcases List.mem_cons.mp hws with e | hws
  · subst e
    rcases List.mem_cons.mp hw with e | hw
    · rw [e]; decide +kernel
    · exact words_len S.s w hw
  · obtain ⟨p, hp, rfl⟩ := List.mem_map.mp hws
    have := S.m p hp
    rcases List.mem_cons.mp hw with e | hw
    · rw [e]; decide +kernel
    rcases List.mem_cons.mp hw with e | hw
    · rw [e]; exact sI_len this.1
    · rw [List.mem_singleton.mp hw]; exact sI_len this.2
theorem words_17 {C : Cod} (O : C.Ok) : ∀ ws ∈ C.words, ws.length ≤ 17 ∧ 1 ≤ ws.length := by
  intro ws hws
  rcases List.mem_cons.mp hws with e | hws
  · subst e; exact ⟨by show 4 ≤ 17; decide, by show 1 ≤ 4; decide⟩
  rcases List.mem_cons.mp hws with e | hws
  · subst e
    have := O.s2
    refine ⟨?_, ?_⟩
    · show (C.steps.map sI).length + 1 ≤ 17
      rw [List.length_map]
      omega
    · show 1 ≤ (C.steps.map sI).length + 1
      omega
  · obtain ⟨p, hp, rfl⟩ := List.mem_map.mp hws
    exact ⟨by show 3 ≤ 17; decide, by show 1 ≤ 3; decide⟩
theorem words_n {C : Cod} (O : C.Ok) : C.words.length ≤ 18 ∧ 4 ≤ C.words.length := by
  have := O.m2
  have := O.m1
  have e : C.words.length = C.moves.length + 2 := by
    show (C.moves.map movW).length + 1 + 1 = _
    rw [List.length_map]
  omega
theorem rows_119 {C : Cod} (O : C.Ok) : ∀ w ∈ C.words.map rowT, w.length ≤ 119 := fun w hw => by
  obtain ⟨ws, hws, rfl⟩ := List.mem_map.mp hw
  exact row_le (words_6 O.sm ws hws) (words_17 O ws hws).1
theorem txt_len {C : Cod} (O : C.Ok) : C.txt.length ≤ 3000 := by
  have h := text_len (rows_119 O)
  rw [List.length_map] at h
  have := (words_n O).1
  unfold Cod.txt
  omega
theorem rows_sum {C : Cod} (O : C.Ok) {y : Str} (hy : y.length ≤ 1) : ((C.words.map rowT).map (·.length)).sum + (C.words.map rowT).length * y.length ≤ 16777216 := by
  have h := sum_len (rows_119 O)
  rw [List.length_map] at h ⊢
  have := (words_n O).1
  have : C.words.length * y.length ≤ 18 * 1 := Nat.mul_le_mul (words_n O).1 hy
  omega
theorem few_sum {ws : List Str} {y : Str} (h : ∀ w ∈ ws, w.length ≤ 6) (hl : ws.length ≤ 100) (hy : y.length ≤ 1) : (ws.map (·.length)).sum + ws.length * y.length ≤ 16777216 := by
  have h := sum_len h
  have : ws.length * y.length ≤ 100 * 1 := Nat.mul_le_mul hl hy
  omega
theorem len_lf : ("\n" : Str).length ≤ 1 := by decide +kernel
theorem len_bl : (" " : Str).length ≤ 1 := by decide +kernel
section
variable {P : Program} {w : World} {K : PySem.W.Frag} {mg : Str → Option Value} {base : Heap}
/-- [str(n) for n in t]: the list that is made -/
def strL (ns : List Int) (i : Nat) : List V := strV ((ns.map sI).take i)
def sp_spaced (K : PySem.W.Frag) : Sp := fun vs H Q _ => ∃ (a : Addr) (ns : List Int), vs = [.ref a] ∧ SqT K H a (ns.map V.int) ∧ ns.length ≤ 100 ∧ (∀ n ∈ ns, n.natAbs < 100000) ∧ ∀ H', Same H H' → Q (.str (rowT (ns.map sI))) H'
theorem ok_spaced (T : Txt K mg) : FnOk P w K mg base CX0 1 T.f__spaced T.d__spaced ["numbers"] (sp_spaced K) := by
  refine T.F__spaced.ok sc_spaced (fun vs H Q E h => ?_) (fun cdv A outer s H vs Q E hr h => ?_)
  · obtain ⟨a, ns, rfl, _⟩ := h
    rfl
  · obtain ⟨a, ns, rfl, ha, hl, hs, q⟩ := h
    refine ⟨_,
(pss_one (ps_ret (pe_bm PySem.F.plainAttrs_str PySem.F.slot_str_join PySem.F.type_str_join mt_join pe_str (pa_cons (pe_lc (own := [("number", 1)]) rfl sc_spaced.nd (pi_tup (pv 0)) (blkOk_by (own := [("number", 1)]) (N := ["numbers", "number"]) (sc := defScope s_spaced) (by decide +kernel)) (fun _ _ _ _ _ => (pg_name (i := 1) sc_spaced.nd rfl (Or.inl rfl))) (fun _ _ _ _ _ => pts_nil) (fun _ _ _ _ _ => (pe_callTy call_str_int (by rfl) T.z_str (by decide +kernel) (pa_cons (pv 1) pa_nil)))) pa_nil))))
, ?_⟩
    refine ⟨rfl, _, rfl, a, rfl, ⟨_, ha⟩, fun D hD => ?_⟩
    refine lc_tup (K := K) (a := a) (xs := ns.map V.int) (fun i H' => H' = upd H D (.lst (strL ns i))) rfl ?_ ?_ ?_
    · rintro i H' _ rfl
      exact same_tup (same_new hD) ha
    · rintro i x H' hx rfl
      obtain ⟨n, hn, rfl⟩ := map_get hx
      refine ⟨rfl, yes_turn ?_⟩
      refine ⟨_, rfl, n, rfl, log_ok (hs n (get_mem hn)), strL ns i, upd_same, ?_, ?_⟩
      · unfold strL strV
        rw [List.length_map, List.length_take, List.length_map]
        exact small1000 (by omega)
      · rw [upd_upd]
        unfold strL
        rw [strs_take (get_map hn)]
        rfl
    · rintro H' rfl
      have e : strL ns (ns.map V.int).length = strV (ns.map sI) := by
        unfold strL
        rw [List.take_of_length_le (by rw [List.length_map, List.length_map]; exact Nat.le_refl _)]
      rw [e]
      refine ⟨" ", D, ns.map sI, rfl, rfl, .inl (SqL.of upd_same), few_sum (words_len hs) (by rw [List.length_map]; exact hl) len_bl, q _ (same_new hD)⟩
theorem ok_need_text (T : Txt K mg) : FnOk P w K mg base CX0 1 T.f__need_text T.d__need_text ["thing"] (fun vs H Q _ => ∃ z : Str, vs = [.str z] ∧ Q .non H) := by
  refine T.F__need_text.ok sc_need_text (fun vs H Q E h => ?_) (fun cdv A outer s H vs Q E hr h => ?_)
  · obtain ⟨z, rfl, _⟩ := h
    rfl
  · obtain ⟨z, rfl, q⟩ := h
    refine ⟨_,
(pss_one (ps_if (pt_not (pt_val (pe_callB (call_isi) (by rfl) T.z_isinstance (by decide +kernel) (pa_cons (pv 0) (pa_cons (pe_bltn (v := .ty "str") (by rfl) T.z_str (by decide +kernel) rfl) pa_nil))))) (pss_one ps_never) pss_nil))
, ?_⟩
    refine ⟨_, rfl, _, .ty "str", _, _, _, rfl, .ty _, .base (.str z), kit_ty (a := "str") (b := "str") (r := true) (by decide +kernel), _, rfl, ?_⟩
    exact iteF q
def sp_coder_text (K : PySem.W.Frag) : Sp := fun vs H Q _ => ∃ (c : V) (C : Cod), vs = [c] ∧ C.Ok ∧ Dp K H c C.dat ∧ ∀ H', Same H H' → Q (.str C.txt) H'
set_option maxHeartbeats 4000000 in
theorem ok_coder_text (T : Txt K mg) : FnOk P w K mg base CX0 7 T.f_coder_text T.d_coder_text ["coder"] (sp_coder_text K) := by
  refine T.F_coder_text.ok sc_coder_text (fun vs H Q E h => ?_) (fun cdv A outer s H vs Q E hr h => ?_)
  · obtain ⟨c, C, rfl, _⟩ := h
    rfl
  · obtain ⟨c, C, rfl, O, hc, q⟩ := h
    have S := O.sm
    refine ⟨_,
(pss_cons (ps_asg (pe_call (ok_need_coder T) (hr.mono (by decide)) (by rfl) T.g_need_coder T.F_need_coder.kp T.b_need_coder .nil pass0 (pa_cons (pv 0) pa_nil)) (pg_tup (by rfl) (pgs_cons (pg_name (i := 1) sc_coder_text.nd rfl (Or.inl rfl)) (pgs_cons (pg_name (i := 2) sc_coder_text.nd rfl (Or.inl rfl)) (pgs_cons (pg_name (i := 3) sc_coder_text.nd rfl (Or.inl rfl)) (pgs_cons (pg_name (i := 4) sc_coder_text.nd rfl (Or.inl rfl)) (pgs_cons (pg_name (i := 5) sc_coder_text.nd rfl (Or.inl rfl)) pgs_nil)))))))
      (pss_cons (ps_set (i := 6) sc_coder_text.nd rfl (Or.inl rfl) (pe_lst (pa_cons (My.pe_joinedN (.cons pe_str (.cons (pe_fmt (pv 1)) (.cons pe_str (.cons (pe_fmt (pv 2)) (.cons pe_str (.cons (pe_fmt (pv 5)) .nil))))))) (pa_cons (My.pe_joinedN (.cons pe_str (.cons (pe_fmt (pe_call (ok_spaced T) (hr.mono (by decide)) (by rfl) T.g__spaced T.F__spaced.kp T.b__spaced .nil pass0 (pa_cons (pv 3) pa_nil))) .nil))) pa_nil))))
      (pss_one (ps_ret (pe_bm PySem.F.plainAttrs_str PySem.F.slot_str_join PySem.F.type_str_join mt_join pe_str (pa_cons (pe_op op_cat (pv 6) (pe_lc (own := [("share", 7), ("turn", 8)]) rfl sc_coder_text.nd (pi_tup (pv 4)) (blkOk_by (own := [("share", 7), ("turn", 8)]) (N := ["coder", "low", "high", "steps", "moves", "fade", "rows", "share", "turn"]) (sc := defScope s_coder_text) (by decide +kernel)) (fun _ _ _ _ _ => (My.pg_tupK (K := K) (n := 2) rfl (pgs_cons (pg_name (i := 7) sc_coder_text.nd rfl (Or.inl rfl)) (pgs_cons (pg_name (i := 8) sc_coder_text.nd rfl (Or.inl rfl)) pgs_nil)))) (fun _ _ _ _ _ => pts_nil) (fun _ _ _ _ _ => (My.pe_joinedN (.cons pe_str (.cons (pe_fmt (pv 7)) (.cons pe_str (.cons (pe_fmt (pv 8)) .nil)))))))) pa_nil))))))
, ?_⟩
    refine ⟨c, rfl, c, C.dat, rfl, hc, O.first, fun H1 s1 => ?_⟩
    obtain ⟨a, sa, mm, ms, rfl, ha, hs, hm, hmd⟩ := cod_at (dp_same s1 _ _ hc)
    refine ⟨a, _, rfl, ha, rfl, _, _, rfl, _, _, rfl, _, _, rfl, _, _, rfl, _, _, rfl, rfl, ?_⟩
    -- the first row
    have b1 := app_len len_e len_levels
    have b2 := app_len b1 (sI_6 S.l)
    have b3 := app_len b2 len_b
    have b4 := app_len b3 (sI_6 S.h)
    have b5 := app_len b4 len_b
    have b6 := app_len b5 (sI_6 S.f)
    refine ⟨_, rfl, line_of b1 (by decide), _, rfl, .inr ⟨C.low, rfl, log_ok S.l, _, rfl, line_of b2 (by decide), _, rfl, line_of b3 (by decide), _, rfl, .inr ⟨C.high, rfl, log_ok S.h, _, rfl, line_of b4 (by decide), _, rfl, line_of b5 (by decide), _, rfl, .inr ⟨C.fade, rfl, log_ok S.f, _, rfl, line_of b6 (by decide), ?_⟩⟩⟩⟩
    have c1 := app_len len_e len_steps
    have c2 := app_len c1 (row_le (words_len S.s) (by rw [List.length_map]; have := O.s2; omega))
    refine ⟨_, rfl, line_of c1 (by decide), _, rfl, sa, C.steps, rfl, hs, by have := O.s2; omega, S.s, fun H2 s2 => .inl ⟨_, rfl, line_of (row_le (words_len S.s) (by rw [List.length_map]; have := O.s2; omega)) (by decide), _, rfl, line_of c2 (by decide), by show 2 ≤ sizeLine; decide, fun L hL => ?_⟩⟩
    have e1 : (((((Str.empty ++ "levels ") ++ Str.ofString (toString C.low)) ++ " ") ++ Str.ofString (toString C.high)) ++ " ") ++ Str.ofString (toString C.fade) = rowT (levW C.low C.high C.fade) := lev_f C.low C.high C.fade
    have e2 := step_f S.sn
    rw [e1, e2]
    have s3 := same_new (o := .lst [V.str (rowT (levW C.low C.high C.fade)), V.str (rowT (stepW C.steps))]) hL
    have hL3 : (upd H2 L (.lst [V.str (rowT (levW C.low C.high C.fade)), V.str (rowT (stepW C.steps))])) L = some (.lst [V.str (rowT (levW C.low C.high C.fade)), V.str (rowT (stepW C.steps))]) := upd_same
    generalize upd H2 L (.lst [V.str (rowT (levW C.low C.high C.fade)), V.str (rowT (stepW C.steps))]) = H3 at s3 hL3
    have hm3 := same_tup (s2.trans s3) hm
    have hmd3 := dpAll_same (s2.trans s3) _ _ hmd
    refine ⟨rfl, _, rfl, _, rfl, mm, rfl, ⟨_, hm3⟩, fun D hD => ?_⟩
    have hml : ms.length = C.moves.length := by rw [dpAll_len hmd, List.length_map]
    refine lc_tup (K := K) (a := mm) (xs := ms) (fun i H' => H' = upd H3 D (.lst (strV (((C.moves.map fun p => rowT (movW p))).take i)))) rfl ?_ ?_ ?_
    · rintro i H' _ rfl
      exact same_tup (same_new hD) hm3
    · rintro i x H' hx rfl
      have hi : i < C.moves.length := by rw [← hml]; exact (List.getElem?_eq_some_iff.mp hx).1
      obtain ⟨qa, hq1, hq2⟩ := move_at (dpAll_same (same_new (o := .lst (strV (((C.moves.map fun p => rowT (movW p))).take i))) hD) _ _ hmd3) hi
      rw [hx] at hq1
      cases hq1
      have hp : C.moves[i]? = some (C.moves.getD i (0, 0)) := by
        rw [List.getD_eq_getElem?_getD, List.getElem?_eq_getElem hi]
        rfl
      generalize C.moves.getD i (0, 0) = p at hq2 hp
      have hpm := S.m p (get_mem hp)
      have d1 := app_len len_e len_move
      have d2 := app_len d1 (sI_6 hpm.1)
      have d3 := app_len d2 len_b
      have d4 := app_len d3 (sI_6 hpm.2)
      refine ⟨qa, _, rfl, hq2, rfl, _, _, rfl, _, _, rfl, rfl, rfl, yes_turn ?_⟩
      refine ⟨_, rfl, line_of d1 (by decide), _, rfl, .inr ⟨p.1, rfl, log_ok hpm.1, _, rfl, line_of d2 (by decide), _, rfl, line_of d3 (by decide), _, rfl, .inr ⟨p.2, rfl, log_ok hpm.2, _, rfl, line_of d4 (by decide), ?_⟩⟩⟩
      refine ⟨_, upd_same, ?_, ?_⟩
      · unfold strV
        rw [List.length_map, List.length_take, List.length_map]
        exact small1000 (by have := O.m2; omega)
      · rw [upd_upd, strs_take (get_map hp), ← mov_f p]
        rfl
    · rintro H' rfl
      have e : strV ((C.moves.map fun p => rowT (movW p)).take ms.length) = strV (C.moves.map fun p => rowT (movW p)) := by
        rw [List.take_of_length_le (by rw [List.length_map, hml]; exact Nat.le_refl _)]
      rw [e]
      have s4 := same_new (o := .lst (strV (C.moves.map fun p => rowT (movW p)))) hD
      refine ⟨L, D, _, _, rfl, rfl, s4 _ _ hL3, upd_same, ?_, fun p hp => ?_⟩
      · unfold strV
        rw [List.length_map, List.length_map]
        exact sz_line (by have := O.m2; show 2 + _ ≤ _; omega)
      have er : [V.str (rowT (levW C.low C.high C.fade)), V.str (rowT (stepW C.steps))] ++ strV (C.moves.map fun p => rowT (movW p)) = (C.words.map rowT).map V.str := by
        simp [strV, Cod.words, Function.comp_def]
      rw [er]
      exact ⟨"\n", p, C.words.map rowT, rfl, rfl, .inl (SqL.of upd_same), rows_sum O len_lf, q _ ((((s1.trans s2).trans s3).trans s4).trans (same_new hp))⟩
set_option maxHeartbeats 4000000 in
theorem ok_law_text (T : Txt K mg) : FnOk P w K mg base CX0 1 T.f__law_text T.d__law_text ["coder"] (sp_coder_text K) := by
  refine T.F__law_text.ok sc_law_text (fun vs H Q E h => ?_) (fun cdv A outer s H vs Q E hr h => ?_)
  · obtain ⟨c, C, rfl, _⟩ := h
    rfl
  · obtain ⟨c, C, rfl, O, hc, q⟩ := h
    have S := O.sm
    obtain ⟨a, sa, mm, ms, rfl, ha, hs, hm, hmd⟩ := cod_at hc
    refine ⟨_,
(pss_cons (ps_set (i := 1) sc_law_text.nd rfl (Or.inl rfl) (pe_lst (pa_cons (pe_op op_add_str pe_str (pe_bm PySem.F.plainAttrs_str PySem.F.slot_str_join PySem.F.type_str_join mt_join pe_str (pa_cons (pe_lst (pa_cons (pe_callTy call_str_int (by rfl) T.z_str (by decide +kernel) (pa_cons (pe_ix ix_tup (pv 0) pe_int (fun _ _ => rfl)) pa_nil)) (pa_cons (pe_callTy call_str_int (by rfl) T.z_str (by decide +kernel) (pa_cons (pe_ix ix_tup (pv 0) pe_int (fun _ _ => rfl)) pa_nil)) (pa_cons (pe_callTy call_str_int (by rfl) T.z_str (by decide +kernel) (pa_cons (pe_ix ix_tup (pv 0) pe_int (fun _ _ => rfl)) pa_nil)) pa_nil)))) pa_nil))) pa_nil)))
      (pss_cons (ps_expr (pe_bm PySem.F.plainAttrs_list PySem.F.slot_list_append PySem.F.type_list_append mt_append (pv 1) (pa_cons (pe_op op_add_str pe_str (pe_bm PySem.F.plainAttrs_str PySem.F.slot_str_join PySem.F.type_str_join mt_join pe_str (pa_cons (pe_lc (own := [("step", 4)]) rfl sc_law_text.nd (pi_tup (pe_ix ix_tup (pv 0) pe_int (fun _ _ => rfl))) (blkOk_by (own := [("step", 4)]) (N := ["coder", "rows", "share", "turn", "step"]) (sc := defScope s_law_text) (by decide +kernel)) (fun _ _ _ _ _ => (pg_name (i := 4) sc_law_text.nd rfl (Or.inl rfl))) (fun _ _ _ _ _ => pts_nil) (fun _ _ _ _ _ => (pe_callTy call_str_int (by rfl) T.z_str (by decide +kernel) (pa_cons (pv 4) pa_nil)))) pa_nil))) pa_nil)))
      (pss_one (ps_ret (pe_bm PySem.F.plainAttrs_str PySem.F.slot_str_join PySem.F.type_str_join mt_join pe_str (pa_cons (pe_op op_cat (pv 1) (pe_lc (own := [("share", 2), ("turn", 3)]) rfl sc_law_text.nd (pi_tup (pe_ix ix_tup (pv 0) pe_int (fun _ _ => rfl))) (blkOk_by (own := [("share", 2), ("turn", 3)]) (N := ["coder", "rows", "share", "turn", "step"]) (sc := defScope s_law_text) (by decide +kernel)) (fun _ _ _ _ _ => (My.pg_tupK (K := K) (n := 2) rfl (pgs_cons (pg_name (i := 2) sc_law_text.nd rfl (Or.inl rfl)) (pgs_cons (pg_name (i := 3) sc_law_text.nd rfl (Or.inl rfl)) pgs_nil)))) (fun _ _ _ _ _ => pts_nil) (fun _ _ _ _ _ => (pe_op op_add_str (pe_op op_add_str (pe_op op_add_str pe_str (pe_callTy call_str_int (by rfl) T.z_str (by decide +kernel) (pa_cons (pv 2) pa_nil))) pe_str) (pe_callTy call_str_int (by rfl) T.z_str (by decide +kernel) (pa_cons (pv 3) pa_nil)))))) pa_nil))))))
, ?_⟩
    have r3 : ∀ w ∈ [sI C.low, sI C.high, sI C.fade], w.length ≤ 6 := fun w hw => by
      rcases List.mem_cons.mp hw with e | hw
      · rw [e]; exact sI_len S.l
      rcases List.mem_cons.mp hw with e | hw
      · rw [e]; exact sI_len S.h
      · rw [List.mem_singleton.mp hw]; exact sI_len S.f
    have n3 : (rowT [sI C.low, sI C.high, sI C.fade]).length ≤ 119 := row_le r3 (by show 3 ≤ 17; decide)
    refine ⟨rfl, _, rfl, a, _, 0, _, rfl, rfl, ha, atI_nat (j := 0) rfl, C.low, rfl, log_ok S.l, _, rfl, a, _, 1, _, rfl, rfl, ha, atI_nat (j := 1) rfl, C.high, rfl, log_ok S.h, _, rfl, a, _, 4, _, rfl, rfl, ha, atI_nat (j := 4) rfl, C.fade, rfl, log_ok S.f,
      by show 3 ≤ sizeLine; decide, fun L1 hL1 => ⟨" ", L1, [sI C.low, sI C.high, sI C.fade], rfl, rfl, .inl (SqL.of upd_same), few_sum r3 (by show 3 ≤ 100; decide) len_bl, _, _, rfl, rfl, sz_line (Nat.le_trans (Nat.add_le_add len_levels n3) (by decide)), by show 1 ≤ sizeLine; decide, fun L hL => ?_⟩⟩
    have s1 := same_new (o := .lst [V.str (Str.ofString (toString C.low)), V.str (Str.ofString (toString C.high)), V.str (Str.ofString (toString C.fade))]) hL1
    have e1 : ("levels " : Str) ++ Txt.join " " [sI C.low, sI C.high, sI C.fade] = rowT (levW C.low C.high C.fade) := lev_l C.low C.high C.fade
    rw [e1]
    generalize upd H L1 (.lst [V.str (Str.ofString (toString C.low)), V.str (Str.ofString (toString C.high)), V.str (Str.ofString (toString C.fade))]) = H1 at s1 hL
    have s2 := s1.trans (same_new (o := .lst [V.str (rowT (levW C.low C.high C.fade))]) hL)
    have hL2 : (upd H1 L (.lst [V.str (rowT (levW C.low C.high C.fade))])) L = some (.lst [V.str (rowT (levW C.low C.high C.fade))]) := upd_same
    have hL0 : H L = none := s1.free hL
    generalize upd H1 L (.lst [V.str (rowT (levW C.low C.high C.fade))]) = H2 at s2 hL2
    -- steps
    refine ⟨_, rfl, .inl ⟨rfl, _, SqL.of hL2⟩, rfl, _, rfl, a, _, 2, _, rfl, rfl, same_tup s2 ha, atI_nat (j := 2) rfl, sa, rfl, ⟨_, same_tup s2 hs⟩, fun D hD => ?_⟩
    refine lc_tup (K := K) (a := sa) (xs := C.steps.map V.int) (fun i H' => H' = upd H2 D (.lst (strL C.steps i))) rfl ?_ ?_ ?_
    · rintro i H' _ rfl
      exact same_tup (s2.trans (same_new hD)) hs
    · rintro i x H' hx rfl
      obtain ⟨n, hn, rfl⟩ := map_get hx
      refine ⟨rfl, yes_turn ?_⟩
      refine ⟨_, rfl, n, rfl, log_ok (S.s n (get_mem hn)), strL C.steps i, upd_same, ?_, ?_⟩
      · unfold strL strV
        rw [List.length_map, List.length_take, List.length_map]
        exact small1000 (by have := O.s2; omega)
      · rw [upd_upd]
        unfold strL
        rw [strs_take (get_map hn)]
        rfl
    rintro H' rfl
    have e : strL C.steps (C.steps.map V.int).length = strV (C.steps.map sI) := by
      unfold strL
      rw [List.take_of_length_le (by rw [List.length_map, List.length_map]; exact Nat.le_refl _)]
    rw [e]
    have s3 := same_new (o := .lst (strV (C.steps.map sI))) hD
    have hL3 := s3 _ _ hL2
    have ss17 : (rowT (C.steps.map sI)).length ≤ 119 := row_le (words_len S.s) (by rw [List.length_map]; have := O.s2; omega)
    refine ⟨" ", D, C.steps.map sI, rfl, rfl, .inl (SqL.of upd_same), few_sum (words_len S.s) (by rw [List.length_map]; have := O.s2; omega) len_bl, _, _, rfl, rfl, sz_line (Nat.le_trans (Nat.add_le_add len_steps ss17) (by decide)), L, _, _, rfl, rfl, hL3, by show 1 < sizeLine; decide, ?_⟩
    have e2 : ("steps " : Str) ++ Txt.join " " (C.steps.map sI) = rowT (stepW C.steps) := step_l S.sn
    rw [e2]
    have s13 : Same H (upd (upd H2 D (.lst (strV (C.steps.map sI)))) L (.lst ([V.str (rowT (levW C.low C.high C.fade))] ++ [V.str (rowT (stepW C.steps))]))) := fun b x e => by
      rw [upd_ne (ne_of_none e hL0)]
      exact (s2.trans s3) b x e
    have hL4 : (upd (upd H2 D (.lst (strV (C.steps.map sI)))) L (.lst ([V.str (rowT (levW C.low C.high C.fade))] ++ [V.str (rowT (stepW C.steps))]))) L = some (.lst [V.str (rowT (levW C.low C.high C.fade)), V.str (rowT (stepW C.steps))]) := upd_same
    generalize upd (upd H2 D (.lst (strV (C.steps.map sI)))) L (.lst ([V.str (rowT (levW C.low C.high C.fade))] ++ [V.str (rowT (stepW C.steps))])) = H4 at s13 hL4
    -- moves
    have hm4 := same_tup s13 hm
    have hmd4 := dpAll_same s13 _ _ hmd
    have hml : ms.length = C.moves.length := by rw [dpAll_len hmd, List.length_map]
    refine ⟨rfl, _, rfl, _, rfl, a, _, 3, _, rfl, rfl, same_tup s13 ha, atI_nat (j := 3) rfl, mm, rfl, ⟨_, hm4⟩, fun D hD => ?_⟩
    refine lc_tup (K := K) (a := mm) (xs := ms) (fun i H' => H' = upd H4 D (.lst (strV (((C.moves.map fun p => rowT (movW p))).take i)))) rfl ?_ ?_ ?_
    · rintro i H' _ rfl
      exact same_tup (same_new hD) hm4
    · rintro i x H' hx rfl
      have hi : i < C.moves.length := by rw [← hml]; exact (List.getElem?_eq_some_iff.mp hx).1
      obtain ⟨qa, hq1, hq2⟩ := move_at (dpAll_same (same_new (o := .lst (strV (((C.moves.map fun p => rowT (movW p))).take i))) hD) _ _ hmd4) hi
      rw [hx] at hq1
      cases hq1
      have hp : C.moves[i]? = some (C.moves.getD i (0, 0)) := by
        rw [List.getD_eq_getElem?_getD, List.getElem?_eq_getElem hi]
        rfl
      generalize C.moves.getD i (0, 0) = p at hq2 hp
      have hpm := S.m p (get_mem hp)
      have d2 := app_len len_move (sI_6 hpm.1)
      have d3 := app_len d2 len_b
      refine ⟨qa, _, rfl, hq2, rfl, _, _, rfl, _, _, rfl, rfl, rfl, yes_turn ?_⟩
      refine ⟨_, rfl, p.1, rfl, log_ok hpm.1, _, _, rfl, rfl, sz_line (Nat.le_trans (Nat.add_le_add len_move (sI_6 hpm.1)) (by decide)), _, _, rfl, rfl, sz_line (Nat.le_trans (Nat.add_le_add d2 len_b) (by decide)), _, rfl, p.2, rfl, log_ok hpm.2, _, _, rfl, rfl, sz_line (Nat.le_trans (Nat.add_le_add d3 (sI_6 hpm.2)) (by decide)), ?_⟩
      refine ⟨_, upd_same, ?_, ?_⟩
      · unfold strV
        rw [List.length_map, List.length_take, List.length_map]
        exact small1000 (by have := O.m2; omega)
      · rw [upd_upd, strs_take (get_map hp), ← mov_l p]
        rfl
    · rintro H' rfl
      have e : strV ((C.moves.map fun p => rowT (movW p)).take ms.length) = strV (C.moves.map fun p => rowT (movW p)) := by
        rw [List.take_of_length_le (by rw [List.length_map, hml]; exact Nat.le_refl _)]
      rw [e]
      have s5 := same_new (o := .lst (strV (C.moves.map fun p => rowT (movW p)))) hD
      refine ⟨L, D, _, _, rfl, rfl, s5 _ _ hL4, upd_same, ?_, fun p hp => ?_⟩
      · unfold strV
        rw [List.length_map, List.length_map]
        exact sz_line (by have := O.m2; show 2 + _ ≤ _; omega)
      have er : [V.str (rowT (levW C.low C.high C.fade)), V.str (rowT (stepW C.steps))] ++ strV (C.moves.map fun p => rowT (movW p)) = (C.words.map rowT).map V.str := by
        simp [strV, Cod.words, Function.comp_def]
      rw [er]
      exact ⟨"\n", p, C.words.map rowT, rfl, rfl, .inl (SqL.of upd_same), rows_sum O len_lf, q _ ((s13.trans s5).trans (same_new hp))⟩
end
end My

set_option pp.maxSteps 1500
namespace My
open PySem PySem.Spec PyProof.Rows L2
theorem cut_one {n : Int} (h : n < 0) : TL.tl (cutS (sI n) (some 1) none) = TL.numL n.natAbs := by
  rcases sI_cases n with ⟨z, _⟩ | ⟨_, e⟩
  · omega
  · have e : (sI n).cps.toList = 45 :: TL.numL (-n).toNat := e
    have hl : (sI n).length = (TL.numL (-n).toNat).length + 1 := by rw [TL.len_tl, show TL.tl (sI n) = _ from e]; rfl
    show ((((sI n).cps.toList.drop (HT.sIx (sI n).length 0 (some ((1 : Nat) : Int)))).take (HT.sIx (sI n).length (sI n).length none - HT.sIx (sI n).length 0 (some ((1 : Nat) : Int)))).toArray).toList = _
    rw [HT.sIx_nat, HT.sIx_none, e, hl, show min 1 ((TL.numL (-n).toNat).length + 1) = 1 by omega, Nat.add_sub_cancel]
    show (TL.numL (-n).toNat).take _ = _
    rw [List.take_length, show (-n).toNat = n.natAbs by omega]
theorem dig_mem {c : Nat} (h1 : 48 ≤ c) (h2 : c ≤ 57) : decide (c ∈ ("0123456789" : Str).cps.toList) = true := by
  have : c = 48 ∨ c = 49 ∨ c = 50 ∨ c = 51 ∨ c = 52 ∨ c = 53 ∨ c = 54 ∨ c = 55 ∨ c = 56 ∨ c = 57 := by omega
  rcases this with e | e | e | e | e | e | e | e | e | e <;> subst e <;> decide +kernel
theorem sI_zero : sI 0 = "0" := TL.ext_tl (by
  have e : TL.tl (sI 0) = TL.numL 0 := tl_pos 0
  rw [e, TL.numL_lt (by decide)]
  decide +kernel)
theorem all_rep (n : Nat) : (List.replicate n true).all id = true := by
  rw [List.all_eq_true]
  intro b hb
  rw [(List.mem_replicate.mp hb).2]
  rfl
theorem ne_str {a b : Str} (h : a ≠ b) : decide (V.str a = V.str b) = false := decide_eq_false fun z => h (V.str.inj z)
section
variable {P : Program} {w : World} {K : PySem.W.Frag} {mg : Str → Option Value} {base : Heap}
theorem ok_is_number (T : Txt K mg) : FnOk P w K mg base CX0 1 T.f__is_number T.d__is_number ["word"] (fun vs H Q _ => ∃ n : Int, vs = [.str (sI n)] ∧ n.natAbs < 100000 ∧ ∀ H', Same H H' → Q (.bl true) H') := by
  refine T.F__is_number.ok sc_is_number (fun vs H Q E h => ?_) (fun cdv A outer s H vs Q E hr h => ?_)
  · obtain ⟨n, rfl, _⟩ := h
    rfl
  · obtain ⟨n, rfl, hn, q⟩ := h
    refine ⟨_,
(pss_cons (ps_set (i := 1) sc_is_number.nd rfl (Or.inl rfl) (pe_ifExp (pt_val (pe_bm PySem.F.plainAttrs_str PySem.F.slot_str_startswith PySem.F.type_str_startswith mt_startswith (pv 0) (pa_cons pe_str pa_nil))) (pe_slice sl_str (pv 0) (po_some pe_int) po_none) (pv 0)))
      (pss_cons (ps_if (pt_not (pt_chain op_le op_le pe_int (pe_callB call_len_str (by rfl) T.z_len (by decide +kernel) (pa_cons (pv 1) pa_nil)) pe_int)) (pss_one (ps_ret pe_bl)) pss_nil)
      (pss_cons (ps_if (pt_not (pt_val (pe_callB ((cr_all rfl)) (by rfl) T.z_all (by decide +kernel) (pa_cons (pe_lc (own := [("sign", 2)]) rfl sc_is_number.nd (pi_str (pv 1)) (blkOk_by (own := [("sign", 2)]) (N := ["word", "digits", "sign"]) (sc := defScope s_is_number) (by decide +kernel)) (fun _ _ _ _ _ => (pg_name (i := 2) sc_is_number.nd rfl (Or.inl rfl))) (fun _ _ _ _ _ => pts_nil) (fun _ _ _ _ _ => (pe_cmpR op_in_sign (pv 2) (pe_glob (v := .str "0123456789") (by rfl) T.g_DIGITS ⟨_, rfl⟩) (by with_unfolding_all rfl)))) pa_nil)))) (pss_one (ps_ret pe_bl)) pss_nil)
      (pss_one (ps_ret (pe_or (pe_cmpR op_eq (pv 0) pe_str (nomark _)) (pe_one (pe_cmpR op_ne (pe_ix ix_str (pv 1) pe_int (fun _ _ => rfl)) pe_str (nomark _)))))))))
, ?_⟩
    have hl6 := sI_len hn
    refine st_tail (fun σ H' => ∃ z : Str, σ = [some (.str (sI n)), some (.str z), none] ∧ H' = H ∧ TL.tl z = TL.numL n.natAbs) ?_ fun tail => ?_
    · rintro σ H1 ⟨z, rfl, rfl, hz⟩
      have zl : z.length = (TL.numL n.natAbs).length := by rw [TL.len_tl, hz]
      have z1 := numL_pos n.natAbs
      have z5 := numL_5 (k := n.natAbs) hn
      refine ⟨_, rfl, z, rfl, sz_line (by omega), 1, _, rfl, rfl, _, rfl, ?_⟩
      rw [decide_eq_true (show (1 : Int) ≤ (z.length : Int) by omega)]
      refine iteT ⟨_, _, rfl, rfl, _, rfl, ?_⟩
      rw [decide_eq_true (show (z.length : Int) ≤ 5 by omega)]
      refine iteF ?_
      refine ⟨_, rfl, z, rfl, fun D hD => ?_⟩
      refine lc_it (walk_str (z := z)) (fun i H' => H' = upd H1 D (.lst ((List.replicate i true).map V.bl))) rfl (fun _ _ _ _ => trivial) ?_ ?_
      · rintro i x H2 H3 hi rfl ⟨rfl, c, hc, rfl⟩
        refine ⟨rfl, yes_turn ?_⟩
        have hcm : c ∈ TL.numL n.natAbs := by
          rw [← hz]
          have : z.cps.toList[i]? = some c := by rw [Array.getElem?_toList]; exact hc
          exact List.mem_of_getElem? this
        have hd := TL.numL_digits n.natAbs c hcm
        refine ⟨_, rfl, c, "0123456789", rfl, rfl, (List.replicate i true).map V.bl, upd_same, ?_, ?_⟩
        · rw [List.length_map, List.length_replicate]
          have : z.cps.size = z.length := rfl
          exact small1000 (by omega)
        · rw [upd_upd, dig_mem hd.1 hd.2, List.replicate_succ', List.map_append]
          rfl
      · rintro H2 rfl
        refine ⟨D, List.replicate z.cps.size true, rfl, SqL.of upd_same, _, rfl, ?_⟩
        rw [all_rep]
        refine iteF ?_
        have sD := same_new (o := .lst ((List.replicate z.cps.size true).map V.bl)) hD
        refine ⟨_, rfl, rfl, _, rfl, ?_⟩
        cases h0 : decide (V.str (sI n) = V.str "0") with
        | true => exact iteT (q _ sD)
        | false =>
          refine iteF ?_
          have n0 : n ≠ 0 := fun e => by
            rw [e, sI_zero] at h0
            rw [decide_eq_true rfl] at h0
            cases h0
          obtain ⟨c, r, hc, c48⟩ := numL_head n.natAbs (by omega)
          refine ⟨_, rfl, z, 0, c, rfl, rfl, sz_line (by omega), ?_, rfl, ?_⟩
          · show atI (TL.tl z) 0 = some c
            rw [hz, hc]
            exact atI_nat (j := 0) rfl
          · have e : decide (V.str (⟨#[c]⟩ : Str) = V.str "0") = false := ne_str fun z => by
              have := congrArg TL.tl z
              rw [show TL.tl "0" = [48] from by decide +kernel] at this
              exact c48 (by injection this)
            show Q (.bl (!decide (V.str (⟨#[c]⟩ : Str) = V.str "0"))) _
            rw [e]
            exact q _ sD
    · refine ⟨_, rfl, rfl, sI n, "-", rfl, rfl, _, rfl, ?_⟩
      rw [sI_sw]
      by_cases hneg : n < 0
      · rw [decide_eq_true hneg]
        refine iteT ?_
        exact ⟨_, rfl, 1, rfl, sI n, rfl, sz_line (by omega), tail _ _ ⟨_, rfl, rfl, cut_one hneg⟩⟩
      · rw [decide_eq_false hneg]
        refine iteF ?_
        refine ⟨_, rfl, tail _ _ ⟨_, rfl, rfl, ?_⟩⟩
        rcases sI_cases n with ⟨_, e⟩ | ⟨z, _⟩
        · rw [e, show n.toNat = n.natAbs by omega]
        · omega
theorem flat_strs (ws : List Str) : (strV ws).all flatV = true := by
  rw [List.all_eq_true]
  intro v hv
  obtain ⟨x, _, rfl⟩ := List.mem_map.mp hv
  rfl
theorem in_strs {x : Str} {ws : List Str} (h : x ∉ ws) : inV (.str x) (strV ws) = false := by
  unfold inV
  rw [List.any_eq_false]
  intro v hv
  obtain ⟨y, hy, rfl⟩ := List.mem_map.mp hv
  intro e
  have : y = x := by simpa [eqV] using e
  exact h (this ▸ hy)
theorem ok_need_no_empty_word (T : Txt K mg) : FnOk P w K mg base CX0 1 T.f__need_no_empty_word T.d__need_no_empty_word ["row", "words"]
    (fun vs H Q _ => ∃ (r : V) (a : Addr) (ws : List Str), vs = [r, .ref a] ∧ SqL K H a (strV ws) ∧ ("" : Str) ∉ ws ∧ Q .non H) := by
  refine T.F__need_no_empty_word.ok sc_need_no_empty_word (fun vs H Q E h => ?_) (fun cdv A outer s H vs Q E hr h => ?_)
  · obtain ⟨r, a, ws, rfl, _⟩ := h
    rfl
  · obtain ⟨r, a, ws, rfl, hw, he, q⟩ := h
    refine ⟨_,
(pss_one (ps_if (pt_cmpR op_in_seq pe_str (pv 1) (by with_unfolding_all rfl)) (pss_one ps_never) pss_nil))
, ?_⟩
    refine ⟨_, rfl, a, _, rfl, .inl hw, rfl, flat_strs ws, _, rfl, ?_⟩
    show if inV (.str "") (strV ws) = true then _ else _
    rw [in_strs he]
    exact iteF q
def sp_row_form (K : PySem.W.Frag) : Sp := fun vs H Q _ => ∃ (r : V) (a : Addr) (name : Str) (ns : List Int) (least most : Int), vs = [r, .ref a, .str name, .int least, .int most] ∧ SqL K H a (strV (name :: ns.map sI)) ∧ name ≠ "" ∧
  (∀ n ∈ ns, n.natAbs < 100000) ∧ ns.length ≤ 100 ∧ (ns.length : Int) ≤ most ∧ least ≤ (ns.length : Int) ∧ ∀ H', Same H H' → Q .non H'
theorem no_empty {name : Str} {ns : List Int} (h : name ≠ "") : ("" : Str) ∉ name :: ns.map sI := fun hm => by
  rcases List.mem_cons.mp hm with e | hm
  · exact h e.symm
  · obtain ⟨n, _, e⟩ := List.mem_map.mp hm
    exact sI_ne n (by rw [e]; decide +kernel)
theorem ok_need_row_form (T : Txt K mg) : FnOk P w K mg base CX0 2 T.f__need_row_form T.d__need_row_form ["row", "words", "name", "least", "most"] (sp_row_form K) := by
  refine T.F__need_row_form.ok sc_need_row_form (fun vs H Q E h => ?_) (fun cdv A outer s H vs Q E hr h => ?_)
  · obtain ⟨r, a, name, ns, least, most, rfl, _⟩ := h
    rfl
  · obtain ⟨r, a, name, ns, least, most, rfl, hw, hne, hs, h100, hmost, hleast, q⟩ := h
    have wl : (strV (name :: ns.map sI)).length = ns.length + 1 := by
      unfold strV
      rw [List.length_map, List.length_cons, List.length_map]
    refine ⟨_,
(pss_cons (ps_expr (pe_call (ok_need_no_empty_word T) (hr.mono (by decide)) (by rfl) T.g__need_no_empty_word T.F__need_no_empty_word.kp T.b__need_no_empty_word .nil pass0 (pa_cons (pv 0) (pa_cons (pv 1) pa_nil))))
      (pss_cons (ps_if (pt_cmpR op_ne (pe_ix ix_list (pv 1) pe_int (fun _ _ => rfl)) (pv 2) (nomark _)) (pss_one ps_never) pss_nil)
      (pss_cons (ps_for PassesOwn.never rfl (pi_range2 (by rfl) T.z_range (pa_cons pe_int (pa_cons (pe_callB (call_len_seq) (by rfl) T.z_len (by decide +kernel) (pa_cons (pv 1) pa_nil)) pa_nil))) (pg_name (i := 5) sc_need_row_form.nd rfl (Or.inl rfl)) (pss_one (ps_if (PW.pt (pw_or (pt_cmpR op_gt (pv 5) (pv 4) (nomark _)) (pw_or1 (pt_not (pt_val (pe_call (ok_is_number T) (hr.mono (by decide)) (by rfl) T.g__is_number T.F__is_number.kp T.b__is_number .nil pass0 (pa_cons (pe_ix ix_list (pv 1) (pv 5) (fun _ _ => rfl)) pa_nil))))))) (pss_one ps_never) pss_nil)))
      (pss_one (ps_if (pt_cmpR op_le (pe_callB (call_len_seq) (by rfl) T.z_len (by decide +kernel) (pa_cons (pv 1) pa_nil)) (pv 3) (nomark _)) (pss_one ps_never) pss_nil)))))
, ?_⟩
    refine ⟨_, rfl, _, rfl, r, a, _, rfl, hw, no_empty hne, ?_⟩
    refine ⟨_, rfl, a, _, 0, .str name, rfl, rfl, hw, atI_nat (j := 0) rfl, _, rfl, rfl, _, rfl, iteNS rfl ?_⟩
    refine ⟨_, rfl, a, _, rfl, .inl hw, _, _, rfl, ⟨by decide, by decide, by omega, by omega⟩, ?_⟩
    refine for_range (lo := 1) (n := (((strV (name :: ns.map sI)).length : Int) - 1).toNat) (fun i σ H' => ∃ y, σ = [some r, some (.ref a), some (.str name), some (.int least), some (.int most), y] ∧ Same H H') ⟨none, rfl, Same.refl H⟩ ?_ ?_
    · rintro i σ H1 hi ⟨y, rfl, s1⟩
      have hi' : i < ns.length := by omega
      have hw1 := s1.seq hw
      refine ⟨_, rfl, _, rfl, _, _, rfl, rfl, _, rfl, ?_⟩
      rw [decide_eq_false (show ¬ most < 1 + (i : Int) by omega)]
      refine iteF ?_
      have hg : (strV (name :: ns.map sI))[i + 1]? = some (.str (sI (ns[i]'hi'))) := by
        show (V.str name :: strV (ns.map sI))[i + 1]? = _
        rw [List.getElem?_cons_succ]
        exact get_map (get_map (List.getElem?_eq_getElem hi'))
      refine ⟨_, rfl, _, rfl, a, _, 1 + (i : Int), _, rfl, rfl, hw1, ?_, ns[i]'hi', rfl, hs _ (List.getElem_mem hi'), fun H2 s2 => ⟨_, rfl, ?_⟩⟩
      · rw [show 1 + (i : Int) = ((i + 1 : Nat) : Int) by omega]
        exact atI_nat hg
      refine iteF ?_
      exact ⟨_, rfl, s1.trans s2⟩
    · rintro σ H1 ⟨y, rfl, s1⟩
      refine ⟨_, rfl, a, _, rfl, .inl (s1.seq hw), _, rfl, _, _, rfl, rfl, _, rfl, ?_⟩
      rw [decide_eq_false (show ¬ ((strV (name :: ns.map sI)).length : Int) ≤ least by omega)]
      exact iteF (q _ s1)
/-- the words of the row of this index, from 0 on -/
def RowOk (i : Nat) (ws : List Str) (ns : List Int) : Prop := (∀ n ∈ ns, n.natAbs < 100000) ∧
  ((i = 0 ∧ ns.length = 3 ∧ ws = ("levels" : Str) :: ns.map sI) ∨ (i = 1 ∧ 1 ≤ ns.length ∧ ns.length ≤ 16 ∧ ws = ("steps" : Str) :: ns.map sI) ∨ (2 ≤ i ∧ ns.length = 2 ∧ ws = ("move" : Str) :: ns.map sI))
theorem ne_levels : ("levels" : Str) ≠ "" := by decide +kernel
theorem ne_steps : ("steps" : Str) ≠ "" := by decide +kernel
theorem ne_move : ("move" : Str) ≠ "" := by decide +kernel
theorem ok_need_coder_row (T : Txt K mg) : FnOk P w K mg base CX0 3 T.f__need_coder_row T.d__need_coder_row ["index", "words"]
    (fun vs H Q _ => ∃ (i : Nat) (a : Addr) (ws : List Str) (ns : List Int), vs = [.int (i : Int), .ref a] ∧ SqL K H a (strV ws) ∧ RowOk i ws ns ∧ ∀ H', Same H H' → Q .non H') := by
  refine T.F__need_coder_row.ok sc_need_coder_row (fun vs H Q E h => ?_) (fun cdv A outer s H vs Q E hr h => ?_)
  · obtain ⟨i, a, ws, ns, rfl, _⟩ := h
    rfl
  · obtain ⟨i, a, ws, ns, rfl, hw, ⟨hs, hr'⟩, q⟩ := h
    refine ⟨_,
(pss_one (ps_if (pt_cmpR op_eq (pv 0) pe_int (nomark _)) (pss_one (ps_expr (pe_call (ok_need_row_form T) (hr.mono (by decide)) (by rfl) T.g__need_row_form T.F__need_row_form.kp T.b__need_row_form .nil pass0 (pa_cons (pe_op op_add (pv 0) pe_int) (pa_cons (pv 1) (pa_cons pe_str (pa_cons pe_int (pa_cons pe_int pa_nil)))))))) (pss_one (ps_if (pt_cmpR op_eq (pv 0) pe_int (nomark _)) (pss_one (ps_expr (pe_call (ok_need_row_form T) (hr.mono (by decide)) (by rfl) T.g__need_row_form T.F__need_row_form.kp T.b__need_row_form .nil pass0 (pa_cons (pe_op op_add (pv 0) pe_int) (pa_cons (pv 1) (pa_cons pe_str (pa_cons pe_int (pa_cons (pe_callB (call_len_seq) (by rfl) T.z_len (by decide +kernel) (pa_cons (pv 1) pa_nil)) pa_nil)))))))) (pss_one (ps_expr (pe_call (ok_need_row_form T) (hr.mono (by decide)) (by rfl) T.g__need_row_form T.F__need_row_form.kp T.b__need_row_form .nil pass0 (pa_cons (pe_op op_add (pv 0) pe_int) (pa_cons (pv 1) (pa_cons pe_str (pa_cons pe_int (pa_cons pe_int pa_nil))))))))))))
, ?_⟩
    refine ⟨_, rfl, rfl, _, rfl, ?_⟩
    rcases hr' with ⟨rfl, hl, rfl⟩ | ⟨rfl, h1, h2, rfl⟩ | ⟨h2, hl, rfl⟩
    · rw [show decide (V.int ((0 : Nat) : Int) = V.int 0) = true from decide_eq_true rfl]
      refine iteT ?_
      exact ⟨_, rfl, _, _, rfl, rfl, _, rfl, _, a, "levels", ns, 3, 3, rfl, hw, ne_levels, hs, by omega, by omega, by omega, fun H1 s1 => q H1 s1⟩
    · rw [show decide (V.int ((1 : Nat) : Int) = V.int 0) = false from decide_eq_false fun z => by cases V.int.inj z]
      refine iteF ?_
      refine ⟨_, rfl, rfl, _, rfl, ?_⟩
      rw [show decide (V.int ((1 : Nat) : Int) = V.int 1) = true from decide_eq_true rfl]
      refine iteT ?_
      refine ⟨_, rfl, _, _, rfl, rfl, _, rfl, _, rfl, a, _, rfl, .inl hw, _, a, "steps", ns, 1, _, rfl, hw, ne_steps, hs, by omega, ?_, by omega, fun H1 s1 => q H1 s1⟩
      show (ns.length : Int) ≤ ((strV ("steps" :: ns.map sI)).length : Int)
      unfold strV
      rw [List.length_map, List.length_cons, List.length_map]
      omega
    · rw [show decide (V.int (i : Int) = V.int 0) = false from decide_eq_false fun z => by have := V.int.inj z; omega]
      refine iteF ?_
      refine ⟨_, rfl, rfl, _, rfl, ?_⟩
      rw [show decide (V.int (i : Int) = V.int 1) = false from decide_eq_false fun z => by have := V.int.inj z; omega]
      refine iteF ?_
      exact ⟨_, rfl, _, _, rfl, rfl, _, rfl, _, a, "move", ns, 2, 2, rfl, hw, ne_move, hs, by omega, by omega, by omega, fun H1 s1 => q H1 s1⟩
theorem ok_numbers_of (T : Txt K mg) : FnOk P w K mg base CX0 1 T.f__numbers_of T.d__numbers_of ["words"]
    (fun vs H Q _ => ∃ (a : Addr) (x : Str) (ns : List Int), vs = [.ref a] ∧ SqL K H a (strV (x :: ns.map sI)) ∧ (∀ n ∈ ns, n.natAbs < 100000) ∧ ns.length ≤ 100 ∧ ∀ p H', Same H H' → H p = none → H' p = some (.tup (ns.map V.int)) → Q (.ref p) H') := by
  refine T.F__numbers_of.ok sc_numbers_of (fun vs H Q E h => ?_) (fun cdv A outer s H vs Q E hr h => ?_)
  · obtain ⟨a, x, ns, rfl, _⟩ := h
    rfl
  · obtain ⟨a, x, ns, rfl, hw, hs, h100, q⟩ := h
    refine ⟨_,
(pss_one (ps_ret (pe_callTy call_tuple_of (by rfl) T.z_tuple (by decide +kernel) (pa_cons (pe_lc (own := [("word", 1)]) rfl sc_numbers_of.nd (pi_list (pe_slice sl_list (pv 0) (po_some pe_int) po_none)) (blkOk_by (own := [("word", 1)]) (N := ["words", "word"]) (sc := defScope s_numbers_of) (by decide +kernel)) (fun _ _ _ _ _ => (pg_name (i := 1) sc_numbers_of.nd rfl (Or.inl rfl))) (fun _ _ _ _ _ => pts_nil) (fun _ _ _ _ _ => (pe_callTy call_int_str (by rfl) T.z_int (by decide +kernel) (pa_cons (pv 1) pa_nil)))) pa_nil))))
, ?_⟩
    refine ⟨_, rfl, 1, rfl, a, _, rfl, hw, fun L hL => ?_⟩
    have e1 : cutV (strV (x :: ns.map sI)) (some 1) none = strV (ns.map sI) := by
      rw [show cutV (strV (x :: ns.map sI)) (some 1) none = (strV (x :: ns.map sI)).drop 1 from cut_drop (n := 1) (by unfold strV; rw [List.length_map, List.length_cons]; omega)]
      rfl
    rw [e1]
    have s1 := same_new (o := .lst (strV (ns.map sI))) hL
    have hL1 : (upd H L (.lst (strV (ns.map sI)))) L = some (.lst (strV (ns.map sI))) := upd_same
    generalize upd H L (.lst (strV (ns.map sI))) = H1 at s1 hL1
    refine ⟨L, rfl, ⟨_, SqL.of hL1⟩, fun D hD => ?_⟩
    refine lc_list (K := K) (a := L) (xs := strV (ns.map sI)) (fun i H' => H' = upd H1 D (.lst ((ns.take i).map V.int))) rfl ?_ ?_ ?_
    · rintro i H' _ rfl
      exact (same_new hD).seq (SqL.of hL1)
    · rintro i v H' hv rfl
      obtain ⟨z, hz, rfl⟩ := map_get hv
      obtain ⟨n, hn, rfl⟩ := map_get hz
      have hb := hs n (get_mem hn)
      refine ⟨rfl, yes_turn ?_⟩
      refine ⟨_, rfl, sI n, n, rfl, sI_int hb, by have := sI_len hb; omega, _, upd_same, ?_, ?_⟩
      · rw [List.length_map, List.length_take]
        exact small1000 (by omega)
      · rw [upd_upd, List.take_succ, hn, List.map_append]
        rfl
    · rintro H' rfl
      rw [show ns.take (strV (ns.map sI)).length = ns from List.take_of_length_le (by unfold strV; rw [List.length_map, List.length_map]; exact Nat.le_refl _)]
      have s2 := same_new (o := .lst (ns.map V.int)) hD
      refine ⟨D, _, rfl, .inl ⟨SqL.of upd_same, fun t ht => ?_⟩⟩
      exact q t _ ((s1.trans s2).trans (same_new ht)) ((s1.trans s2).free ht) upd_same
end
end My

set_option pp.maxSteps 1500
namespace My
open PySem PySem.Spec PyProof.Rows L2
/-- the numbers of a coder's rows -/
def Cod.nums (C : Cod) : List (List Int) := [C.low, C.high, C.fade] :: C.steps :: C.moves.map fun p => [p.1, p.2]
theorem words_nums {C : Cod} (O : C.Ok) {i : Nat} {ws : List Str} (h : C.words[i]? = some ws) : ∃ ns, C.nums[i]? = some ns ∧ RowOk i ws ns := by
  have S := O.sm
  match i, h with
  | 0, h =>
    cases Option.some.inj h
    refine ⟨_, rfl, fun n hn => ?_, .inl ⟨rfl, rfl, rfl⟩⟩
    rcases List.mem_cons.mp hn with e | hn
    · rw [e]; exact S.l
    rcases List.mem_cons.mp hn with e | hn
    · rw [e]; exact S.h
    · rw [List.mem_singleton.mp hn]; exact S.f
  | 1, h =>
    cases Option.some.inj h
    exact ⟨_, rfl, S.s, .inr (.inl ⟨rfl, O.s1, O.s2, rfl⟩)⟩
  | i + 2, h =>
    have h : (C.moves.map movW)[i]? = some ws := h
    obtain ⟨p, hp, rfl⟩ := map_get h
    refine ⟨[p.1, p.2], ?_, fun n hn => ?_, .inr (.inr ⟨by omega, rfl, rfl⟩)⟩
    · show (C.moves.map fun p => [p.1, p.2])[i]? = _
      exact get_map hp
    · have := S.m p (get_mem hp)
      rcases List.mem_cons.mp hn with e | hn
      · rw [e]; exact this.1
      · rw [List.mem_singleton.mp hn]; exact this.2
theorem rowOk_form {i : Nat} {ws : List Str} {ns : List Int} (h : RowOk i ws ns) : ∃ x, ws = x :: ns.map sI ∧ (∀ n ∈ ns, n.natAbs < 100000) ∧ ns.length ≤ 100 := by
  obtain ⟨hs, ⟨_, hl, rfl⟩ | ⟨_, h1, h2, rfl⟩ | ⟨_, hl, rfl⟩⟩ := h
  · exact ⟨_, rfl, hs, by omega⟩
  · exact ⟨_, rfl, hs, by omega⟩
  · exact ⟨_, rfl, hs, by omega⟩
theorem lit_free {x : Str} {s : Nat} (h : x = "levels" ∨ x = "steps" ∨ x = "move") (hs : s = 32 ∨ s = 10) : s ∉ TL.tl x := by
  have a : ∀ x ∈ (["levels", "steps", "move"] : List Str), 32 ∉ TL.tl x ∧ 10 ∉ TL.tl x := by decide +kernel
  have hx : x ∈ (["levels", "steps", "move"] : List Str) := by
    rcases h with e | e | e <;> subst e <;> simp
  rcases hs with e | e <;> subst e
  · exact (a x hx).1
  · exact (a x hx).2
theorem words_free {C : Cod} {s : Nat} (hs : s = 32 ∨ s = 10) : ∀ ws ∈ C.words, ∀ w ∈ ws, s ∉ TL.tl w := by
  have num : ∀ n : Int, s ∉ TL.tl (sI n) := fun n => sI_free (by omega) (by omega)
  intro ws hws w hw
  rcases List.mem_cons.mp hws with e | hws
  · subst e
    rcases List.mem_cons.mp hw with e | hw
    · exact lit_free (.inl e) hs
    rcases List.mem_cons.mp hw with e | hw
    · rw [e]; exact num _
    rcases List.mem_cons.mp hw with e | hw
    · rw [e]; exact num _
    · rw [List.mem_singleton.mp hw]; exact num _
  rcases List.mem_cons.mp hws with e | hws
  · subst e
    rcases List.mem_cons.mp hw with e | hw
    · exact lit_free (.inr (.inl e)) hs
    · obtain ⟨n, _, rfl⟩ := List.mem_map.mp hw
      exact num n
  · obtain ⟨p, _, rfl⟩ := List.mem_map.mp hws
    rcases List.mem_cons.mp hw with e | hw
    · exact lit_free (.inr (.inr e)) hs
    rcases List.mem_cons.mp hw with e | hw
    · rw [e]; exact num _
    · rw [List.mem_singleton.mp hw]; exact num _
theorem txt_split {C : Cod} : Txt.split C.txt "\n" = C.words.map rowT := split_text (by simp [Cod.words]) fun w hw => by
  obtain ⟨ws, hws, rfl⟩ := List.mem_map.mp hw
  exact row_lf fun w hw => words_free (.inr rfl) ws hws w hw
theorem word_split {C : Cod} {ws : List Str} (h : ws ∈ C.words) : Txt.split (rowT ws) " " = ws := split_row (fun e => by
  subst e
  rcases List.mem_cons.mp h with e | h
  · cases e
  rcases List.mem_cons.mp h with e | h
  · cases e
  · obtain ⟨p, _, e⟩ := List.mem_map.mp h
    cases e) fun w hw => words_free (.inl rfl) ws h w hw
/-- the rows' words as lists, at ps -/
structure RowsAt (C : Cod) (H : Hp) (ps : List Addr) (k : Nat) : Prop where
  len : ps.length = k
  st : ∀ (i : Nat) (p : Addr) (ws : List Str), ps[i]? = some p → C.words[i]? = some ws → H p = some (.lst (strV ws))
theorem RowsAt.same {C : Cod} {H H' : Hp} {ps : List Addr} {k : Nat} (h : RowsAt C H ps k) (s : Same H H') : RowsAt C H' ps k := ⟨h.len, fun i p ws a b => s _ _ (h.st i p ws a b)⟩
section
variable {P : Program} {w : World} {K : PySem.W.Frag} {mg : Str → Option Value} {base : Heap}
def sp_read_coder (K : PySem.W.Frag) : Sp := fun vs H Q _ => ∃ C : Cod, vs = [.str C.txt] ∧ C.Ok ∧ ∀ z H', Same H H' → Dp K H' z C.dat → Q z H'
set_option maxHeartbeats 4000000 in
theorem ok_read_coder (T : Txt K mg) : FnOk P w K mg base CX0 7 T.f_read_coder T.d_read_coder ["text"] (sp_read_coder K) := by
  refine T.F_read_coder.ok sc_read_coder (fun vs H Q E h => ?_) (fun cdv A outer s H vs Q E hr h => ?_)
  · obtain ⟨C, rfl, _⟩ := h
    rfl
  · obtain ⟨C, rfl, O, q⟩ := h
    have S := O.sm
    obtain ⟨n18, n4⟩ := words_n O
    refine ⟨_,
(pss_cons (ps_expr (pe_call (ok_need_text T) (hr.mono (by decide)) (by rfl) T.g__need_text T.F__need_text.kp T.b__need_text .nil pass0 (pa_cons (pv 0) pa_nil)))
      (pss_cons (ps_setLc (i := 1) (own := [("row", 9)]) rfl sc_read_coder.nd rfl rfl (sw_true rfl rfl rfl (by decide +kernel)) (pi_list (pe_bm PySem.F.plainAttrs_str PySem.F.slot_str_split PySem.F.type_str_split mt_split (pv 0) (pa_cons pe_str pa_nil))) (blkOk_by (own := [("row", 9)]) (N := ["text", "rows", "index", "words", "low", "high", "fade", "steps", "moves", "row"]) (sc := defScope s_read_coder) (by decide +kernel)) (fun _ _ _ _ _ => (pg_name (i := 9) sc_read_coder.nd rfl (Or.inl rfl))) (fun _ _ _ _ _ => pts_nil) (fun _ _ _ _ _ => (My.pe_bmK (K := K) PySem.F.plainAttrs_str PySem.F.slot_str_split PySem.F.type_str_split mt_split (pv 9) (pa_cons pe_str pa_nil))))
      (pss_cons (ps_for PassesOwn.never rfl (pi_enum (by rfl) T.z_enumerate (pa_cons (pv 1) pa_nil)) (pg_tup (by rfl) (pgs_cons (pg_name (i := 2) sc_read_coder.nd rfl (Or.inl rfl)) (pgs_cons (pg_name (i := 3) sc_read_coder.nd rfl (Or.inl rfl)) pgs_nil))) (pss_one (ps_expr (pe_call (ok_need_coder_row T) (hr.mono (by decide)) (by rfl) T.g__need_coder_row T.F__need_coder_row.kp T.b__need_coder_row .nil pass0 (pa_cons (pv 2) (pa_cons (pv 3) pa_nil))))))
      (pss_cons (ps_if (pt_cmpR op_lt (pe_callB (call_len_seq) (by rfl) T.z_len (by decide +kernel) (pa_cons (pv 1) pa_nil)) pe_int (nomark _)) (pss_one ps_never) pss_nil)
      (pss_cons (ps_asg (pe_call (ok_numbers_of T) (hr.mono (by decide)) (by rfl) T.g__numbers_of T.F__numbers_of.kp T.b__numbers_of .nil pass0 (pa_cons (pe_ix ix_list (pv 1) pe_int (fun _ _ => rfl)) pa_nil)) (pg_tup (by rfl) (pgs_cons (pg_name (i := 4) sc_read_coder.nd rfl (Or.inl rfl)) (pgs_cons (pg_name (i := 5) sc_read_coder.nd rfl (Or.inl rfl)) (pgs_cons (pg_name (i := 6) sc_read_coder.nd rfl (Or.inl rfl)) pgs_nil)))))
      (pss_cons (ps_set (i := 7) sc_read_coder.nd rfl (Or.inl rfl) (pe_call (ok_numbers_of T) (hr.mono (by decide)) (by rfl) T.g__numbers_of T.F__numbers_of.kp T.b__numbers_of .nil pass0 (pa_cons (pe_ix ix_list (pv 1) pe_int (fun _ _ => rfl)) pa_nil)))
      (pss_cons (ps_set (i := 8) sc_read_coder.nd rfl (Or.inl rfl) (pe_callTy call_tuple_of (by rfl) T.z_tuple (by decide +kernel) (pa_cons (pe_lc (own := [("words", 3)]) rfl sc_read_coder.nd (pi_list (pe_slice sl_list (pv 1) (po_some pe_int) po_none)) (blkOk_by (own := [("words", 3)]) (N := ["text", "rows", "index", "words", "low", "high", "fade", "steps", "moves", "row"]) (sc := defScope s_read_coder) (by decide +kernel)) (fun _ _ _ _ _ => (pg_name (i := 3) sc_read_coder.nd rfl (Or.inl rfl))) (fun _ _ _ _ _ => pts_nil) (fun _ _ _ _ _ => (pe_call (ok_numbers_of T) (hr.mono (by decide)) (by rfl) T.g__numbers_of T.F__numbers_of.kp T.b__numbers_of .nil pass0 (pa_cons (pv 3) pa_nil)))) pa_nil)))
      (pss_one (ps_ret (pe_call (ok_need_coder T) (hr.mono (by decide)) (by rfl) T.g_need_coder T.F_need_coder.kp T.b_need_coder .nil pass0 (pa_cons (pe_tup (pa_cons (pv 4) (pa_cons (pv 5) (pa_cons (pv 7) (pa_cons (pv 8) (pa_cons (pv 6) pa_nil)))))) pa_nil)))))))))))
, ?_⟩
    refine ⟨_, rfl, C.txt, rfl, ?_⟩
    -- rows
    refine ⟨_, rfl, rfl, C.txt, "\n", rfl, rfl, by decide +kernel, sz_line (by have := txt_len O; omega), fun L hL => ?_⟩
    rw [txt_split]
    have s1 := same_new (o := .lst ((C.words.map rowT).map V.str)) hL
    have hL1 : (upd H L (.lst ((C.words.map rowT).map V.str))) L = some (.lst ((C.words.map rowT).map V.str)) := upd_same
    generalize upd H L (.lst ((C.words.map rowT).map V.str)) = H1 at s1 hL1
    refine ⟨L, rfl, ⟨_, SqL.of hL1⟩, fun D hD => ?_⟩
    refine lc_list (K := K) (a := L) (xs := (C.words.map rowT).map V.str) (fun i H' => ∃ ps : List Addr, H' D = some (.lst (ps.map V.ref)) ∧ RowsAt C H' ps i ∧ (∀ p ∈ ps, p ≠ D) ∧ Same H1 H')
      ⟨[], upd_same, ⟨rfl, fun i p ws a _ => by cases i <;> cases a⟩, fun p hp => (by cases hp), same_new hD⟩ ?_ ?_ ?_
    · rintro i H' _ ⟨ps, _, _, _, s2⟩
      exact (s2.seq (SqL.of hL1))
    · rintro i v H' hv ⟨ps, hps, rows, ne, s2⟩
      obtain ⟨z, hz, rfl⟩ := map_get hv
      obtain ⟨ws, hws, rfl⟩ := map_get hz
      have hi : i < C.words.length := (List.getElem?_eq_some_iff.mp hws).1
      have hmem := get_mem hws
      refine ⟨rfl, yes_turn ?_⟩
      refine ⟨_, rfl, rfl, rowT ws, " ", rfl, rfl, by decide +kernel, sz_line (by have := row_le (words_6 S ws hmem) (words_17 O ws hmem).1; omega), fun p hp => ?_⟩
      rw [word_split hmem]
      have s3 := same_new (o := .lst (ws.map V.str)) hp
      have npD : p ≠ D := (ne_of_none hps hp).symm
      refine ⟨ps.map V.ref, s3 _ _ hps, ?_, ps ++ [p], ?_, ⟨?_, ?_⟩, ?_, ?_⟩
      · rw [List.length_map, rows.len]
        exact small1000 (by omega)
      · rw [upd_same, List.map_append]
        rfl
      · rw [List.length_append, rows.len]
        rfl
      · intro j p' ws' hp' hws'
        by_cases hj : j < i
        · rw [List.getElem?_append_left (by rw [rows.len]; exact hj)] at hp'
          rw [upd_ne (ne p' (get_mem hp'))]
          exact s3 _ _ (rows.st j p' ws' hp' hws')
        · have hj2 : j < (ps ++ [p]).length := (List.getElem?_eq_some_iff.mp hp').1
          rw [List.length_append, rows.len] at hj2
          have e : j = i := by
            have : j < i + 1 := hj2
            omega
          subst e
          rw [List.getElem?_append_right (by rw [rows.len]; exact Nat.le_refl _), rows.len, Nat.sub_self] at hp'
          cases hp'
          rw [hws] at hws'
          cases hws'
          rw [upd_ne npD]
          exact upd_same
      · intro p' hp'
        rcases List.mem_append.mp hp' with e | e
        · exact ne p' e
        · rw [List.mem_singleton.mp e]; exact npD
      · intro b x e
        rw [upd_ne (ne_of_none e hD)]
        exact (s2.trans s3) b x e
    rintro H2 ⟨ps, hps, rows, _, s2⟩
    rw [show ((C.words.map rowT).map V.str).length = C.words.length by rw [List.length_map, List.length_map]] at rows
    have s12 := s1.trans s2
    -- the rows' forms
    refine ⟨_, rfl, D, _, rfl, SqL.of hps, ?_⟩
    refine for_it (walk_enum (K := K) (a := D) (xs := ps.map V.ref)) (fun i σ H' => ∃ y2 y3, σ = [some (.str C.txt), some (.ref D), y2, y3, none, none, none, none, none, none] ∧ Same H2 H') ⟨none, none, rfl, Same.refl H2⟩ ?_ ?_ ?_
    · rintro i σ H' _ ⟨_, _, _, s3⟩
      exact s3.seq (SqL.of hps)
    · rintro i x σ H3 H3' hi ⟨y2, y3, rfl, s3⟩ ⟨T', x', y', rfl, hT, rfl, hx, hy⟩
      cases Option.some.inj hx
      obtain ⟨p, hp, rfl⟩ := map_get hy
      have hiw : i < C.words.length := by rw [List.length_map, rows.len] at hi; exact hi
      obtain ⟨ns, _, hrow⟩ := words_nums O (List.getElem?_eq_getElem hiw)
      have hpw := rows.st i p _ hp (List.getElem?_eq_getElem hiw)
      have s4 := s3.trans (same_new (o := .tup [V.int (i : Nat), V.ref p]) hT)
      refine ⟨T', _, rfl, upd_tup, rfl, _, _, rfl, _, _, rfl, rfl, ?_⟩
      exact ⟨_, rfl, _, rfl, i, p, _, ns, rfl, SqL.of (s4 _ _ hpw), hrow, fun H5 s5 => ⟨_, _, rfl, s4.trans s5⟩⟩
    rintro σ H3 ⟨y2, y3, rfl, s3⟩
    have hD3 := s3 _ _ hps
    have rows3 := rows.same s3
    have pl : (ps.map V.ref).length = C.words.length := by rw [List.length_map, rows.len]
    refine ⟨_, rfl, D, _, rfl, .inl (SqL.of hD3), _, _, rfl, rfl, _, rfl, ?_⟩
    rw [decide_eq_false (show ¬ ((ps.map V.ref).length : Int) < 2 by rw [pl]; omega)]
    refine iteF ?_
    have rowAt : ∀ {H4 : Hp} {i : Nat} {ns : List Int}, Same H3 H4 → C.nums[i]? = some ns → i < C.words.length → ∃ p x, (ps.map V.ref)[i]? = some (V.ref p) ∧ SqL K H4 p (strV (x :: ns.map sI)) ∧ (∀ n ∈ ns, n.natAbs < 100000) ∧ ns.length ≤ 100 := by
      intro H4 i ns s4 hn hiw
      obtain ⟨ns', hn', hrow⟩ := words_nums O (List.getElem?_eq_getElem hiw)
      rw [hn] at hn'
      cases hn'
      obtain ⟨x, hx, hb, hl⟩ := rowOk_form hrow
      have hip : i < ps.length := by rw [rows.len]; exact hiw
      refine ⟨ps[i], x, get_map (List.getElem?_eq_getElem hip), ?_, hb, hl⟩
      have := s4 _ _ (rows3.st i ps[i] _ (List.getElem?_eq_getElem hip) (List.getElem?_eq_getElem hiw))
      rw [hx] at this
      exact SqL.of this
    -- low, high, fade
    obtain ⟨p0, x0, h0, w0, b0, l0⟩ := rowAt (i := 0) (ns := [C.low, C.high, C.fade]) (Same.refl H3) rfl (by omega)
    refine ⟨_, rfl, D, _, 0, _, rfl, rfl, SqL.of hD3, atI_nat (j := 0) h0, p0, x0, _, rfl, w0, b0, l0, fun t0 H4 s4 _ ht0 => ?_⟩
    refine ⟨t0, _, rfl, .inl (.inl ht0), rfl, _, _, rfl, _, _, rfl, _, _, rfl, rfl, ?_⟩
    -- steps
    obtain ⟨p1, x1, h1, w1, b1, l1⟩ := rowAt (i := 1) (ns := C.steps) s4 rfl (by omega)
    refine ⟨_, rfl, D, _, 1, _, rfl, rfl, SqL.of (s4 _ _ hD3), atI_nat (j := 1) h1, p1, x1, _, rfl, w1, b1, l1, fun t1 H5 s5 _ ht1 => ?_⟩
    have s35 := s4.trans s5
    -- moves
    refine ⟨_, rfl, 2, rfl, D, _, rfl, SqL.of (s35 _ _ hD3), fun L2 hL2 => ?_⟩
    rw [show cutV (ps.map V.ref) (some 2) none = (ps.map V.ref).drop 2 from cut_drop (n := 2) (by rw [pl]; omega)]
    have s6 := same_new (o := .lst ((ps.map V.ref).drop 2)) hL2
    have hL26 : (upd H5 L2 (.lst ((ps.map V.ref).drop 2))) L2 = some (.lst ((ps.map V.ref).drop 2)) := upd_same
    generalize upd H5 L2 (.lst ((ps.map V.ref).drop 2)) = H6 at s6 hL26
    have s36 := s35.trans s6
    have dl : ((ps.map V.ref).drop 2).length = C.moves.length := by
      rw [List.length_drop, pl]
      show (C.moves.map movW).length + 1 + 1 - 2 = _
      rw [List.length_map]
      omega
    refine ⟨L2, rfl, ⟨_, SqL.of hL26⟩, fun E hE => ?_⟩
    refine lc_list (K := K) (a := L2) (xs := (ps.map V.ref).drop 2) (fun i H' => ∃ xs, H' E = some (.lst xs) ∧ DpAll K H' xs ((C.moves.take i).map pairI) ∧ Same H6 H') ⟨[], upd_same, .nil, same_new hE⟩ ?_ ?_ ?_
    · rintro i H' _ ⟨xs, _, _, s7⟩
      exact s7.seq (SqL.of hL26)
    · rintro i v H' hv ⟨xs, hxs, hxd, s7⟩
      rw [List.getElem?_drop] at hv
      have hi : i < C.moves.length := by
        have := (List.getElem?_eq_some_iff.mp hv).1
        rw [pl] at this
        have e : C.words.length = C.moves.length + 2 := by
          show (C.moves.map movW).length + 1 + 1 = _
          rw [List.length_map]
        omega
      have hp : C.moves[i]? = some (C.moves[i]'hi) := List.getElem?_eq_getElem hi
      generalize C.moves[i]'hi = pr at hp
      have hnum : C.nums[2 + i]? = some [pr.1, pr.2] := by
        rw [show 2 + i = i + 1 + 1 by omega]
        show (C.moves.map fun p => [p.1, p.2])[i]? = _
        exact get_map hp
      obtain ⟨p2, x2, h2, w2, b2, l2⟩ := rowAt (i := 2 + i) (s36.trans s7) hnum (by
        have e : C.words.length = C.moves.length + 2 := by
          show (C.moves.map movW).length + 1 + 1 = _
          rw [List.length_map]
        omega)
      rw [h2] at hv
      cases hv
      refine ⟨rfl, yes_turn ?_⟩
      refine ⟨_, rfl, p2, x2, _, rfl, w2, b2, l2, fun t2 H8 s8 _ ht2 => ?_⟩
      have hxs8 := s8 _ _ hxs
      have xl : xs.length = i := by
        rw [dpAll_len hxd, List.length_map, List.length_take]
        omega
      refine ⟨xs, hxs8, ?_, xs ++ [.ref t2], upd_same, ?_, ?_⟩
      · rw [xl]
        exact small1000 (by have := O.m2; omega)
      · rw [show C.moves.take (i + 1) = C.moves.take i ++ [pr] by rw [List.take_succ, hp]; rfl, List.map_append]
        have mono : ∀ {ds : List PyData} {ys : List V}, (∀ d ∈ ds, ∃ p, d = pairI p) → DpAll K H8 ys ds → DpAll K (upd H8 E (.lst (xs ++ [.ref t2]))) ys ds := by
          intro ds ys
          induction ds generalizing ys with
          | nil => intro _ h; cases h; exact .nil
          | cons d r ih =>
            intro hd h
            cases h with
            | cons a b =>
              obtain ⟨p, rfl⟩ := hd d List.mem_cons_self
              obtain ⟨t, rfl, ht⟩ := dp_pair a
              exact .cons (dp_mkpair (sqt_set hxs8 ht)) (ih (fun e he => hd e (List.mem_cons_of_mem _ he)) b)
        refine dpAll_app (mono (fun d hd => ?_) (dpAll_same s8 _ _ hxd)) (.cons (dp_mkpair (sqt_set hxs8 (.inl (.inl ht2)))) .nil)
        obtain ⟨p, _, rfl⟩ := List.mem_map.mp hd
        exact ⟨p, rfl⟩
      · intro b x e
        rw [upd_ne (ne_of_none e hE)]
        exact (s7.trans s8) b x e
    rintro H7 ⟨xs, hxs, hxd, s7⟩
    rw [dl, List.take_length] at hxd
    refine ⟨E, xs, rfl, .inl ⟨SqL.of hxs, fun tm htm => ?_⟩⟩
    have s8 := same_new (o := .tup xs) htm
    -- the coder
    refine ⟨_, rfl, _, rfl, _, rfl, _, rfl, _, rfl, by show 5 ≤ sizeLine; decide, fun tc htc => ?_⟩
    have s9 := same_new (o := .tup [V.int C.low, V.int C.high, V.ref t1, V.ref tm, V.int C.fade]) htc
    have hc : Dp K (upd (upd H7 tm (.tup xs)) tc (.tup [V.int C.low, V.int C.high, V.ref t1, V.ref tm, V.int C.fade])) (.ref tc) C.dat :=
      .tup upd_tup (.cons (.int _) (.cons (.int _) (.cons (dp_tints (.inl (.inl ((((s6.trans s7).trans s8).trans s9) _ _ ht1)))) (.cons (.tup (.inl (.inl (s9 _ _ upd_same))) (dpAll_same (s8.trans s9) _ _ hxd)) (.cons (.int _) .nil)))))
    refine ⟨.ref tc, C.dat, rfl, hc, O.first, fun H10 s10 => ?_⟩
    exact q _ _ (((((s12.trans s3).trans s36).trans s7).trans (s8.trans s9)).trans s10) (dp_same s10 _ _ hc)
def sp_law : Sp := fun vs H Q _ => ∃ (a : Addr) (ns : List Int), vs = [.ref a] ∧ SqL K H a (ns.map V.int) ∧ ns.length ≤ 63 ∧ ∀ H', Q (.bl true) H'
set_option maxHeartbeats 4000000 in
theorem ok_law (T : Txt K mg) : FnG P w K mg base 9 T.f_law T.d_law ["script"] (sp_law (K := K)) := by
  refine okG T.F_law sc_law (fun vs H Q E h => ?_) (fun cdv A outer s H vs Q E hgd hr h => ?_)
  · obtain ⟨a, ns, rfl, _⟩ := h
    rfl
  · obtain ⟨a, ns, rfl, hS, hl, q⟩ := h
    refine ⟨_,
(pss_cons (ps_set (i := 1) sc_law.nd rfl (Or.inl rfl) (pe_call (ok_law_begun T) (hr.mono (by decide)) (by rfl) T.g__law_begun T.F__law_begun.kp T.b__law_begun .nil pass0 (pa_cons (pv 0) pa_nil)))
      (pss_cons (ps_for PassesOwn.never rfl (pi_range1 (by rfl) T.z_range (pa_cons (pe_op op_add pe_int (pe_callB (call_min2 rfl) (by rfl) T.z_min (by decide +kernel) (pa_cons (pe_callB (call_len_seq) (by rfl) T.z_len (by decide +kernel) (pa_cons (pv 0) pa_nil)) (pa_cons pe_int pa_nil)))) pa_nil)) (pg_name (i := 2) sc_law.nd rfl (Or.inl rfl)) (pss_cons (ps_set (i := 3) sc_law.nd rfl (Or.inl rfl) (pe_call (ok_law_wide T) (hr.mono (by decide)) (by rfl) T.g__law_wide T.F__law_wide.kp T.b__law_wide .nil pass0 (pa_cons (pv 1) pa_nil)))
      (pss_cons (ps_if (PW.pt (pw_or (pt_cmpR op_ne (pe_call (ok_coder_text T) (hr.mono (by decide)) (by rfl) T.g_coder_text T.F_coder_text.kp T.b_coder_text .nil pass0 (pa_cons (pv 3) pa_nil)) (pe_call (ok_law_text T) (hr.mono (by decide)) (by rfl) T.g__law_text T.F__law_text.kp T.b__law_text .nil pass0 (pa_cons (pv 3) pa_nil)) (nomark _)) (pw_or1 (pt_cmpR op_ne (pe_callB ((call_repr hgd hr.units)) (by rfl) T.z_repr (by decide +kernel) (pa_cons (pe_call (ok_read_coder T) (hr.mono (by decide)) (by rfl) T.g_read_coder T.F_read_coder.kp T.b_read_coder .nil pass0 (pa_cons (pe_call (ok_law_text T) (hr.mono (by decide)) (by rfl) T.g__law_text T.F__law_text.kp T.b__law_text .nil pass0 (pa_cons (pv 3) pa_nil)) pa_nil)) pa_nil)) (pe_callB ((call_repr hgd hr.units)) (by rfl) T.z_repr (by decide +kernel) (pa_cons (pv 3) pa_nil)) (nomark _))))) (pss_one (ps_ret pe_bl)) pss_nil)
      (pss_one (ps_if (pt_cmpR op_ne (pe_call (ok_coder_text T) (hr.mono (by decide)) (by rfl) T.g_coder_text T.F_coder_text.kp T.b_coder_text .nil pass0 (pa_cons (pe_call (ok_read_coder T) (hr.mono (by decide)) (by rfl) T.g_read_coder T.F_read_coder.kp T.b_read_coder .nil pass0 (pa_cons (pe_call (ok_coder_text T) (hr.mono (by decide)) (by rfl) T.g_coder_text T.F_coder_text.kp T.b_coder_text .nil pass0 (pa_cons (pv 3) pa_nil)) pa_nil)) pa_nil)) (pe_call (ok_law_text T) (hr.mono (by decide)) (by rfl) T.g__law_text T.F__law_text.kp T.b__law_text .nil pass0 (pa_cons (pv 3) pa_nil)) (nomark _)) (pss_one (ps_ret pe_bl)) pss_nil)))))
      (pss_one (ps_ret pe_bl))))
, ?_⟩
    refine ⟨.ref a, rfl, a, ns, rfl, hS, hl, fun m c l H1 s1 hm hc hl0 D1 => ?_⟩
    have hS1 := s1.seq hS
    refine ⟨_, rfl, a, _, rfl, .inl hS1, ?_⟩
    refine ⟨_, 5, rfl, 2, _, rfl, rfl, _, rfl, ?_, ?_, ?_⟩
    · rw [List.length_map]; split <;> omega
    · rw [List.length_map]; split <;> omega
    have hn : (2 + if (5 : Int) < ((ns.map V.int).length : Int) then 5 else ((ns.map V.int).length : Int)).toNat ≤ 7 := by
      rw [List.length_map]
      split <;> omega
    refine for_range (lo := 0) (n := (2 + if (5 : Int) < ((ns.map V.int).length : Int) then 5 else ((ns.map V.int).length : Int)).toNat)
      (fun i σ H' => ∃ x2 x3 l', σ = [some (.ref a), some (.ref m), x2, x3] ∧ Dr H' m c l' (900000 - 200 * i)) ⟨none, none, l, rfl, D1⟩ ?_ ?_
    · rintro i σ H2 hi ⟨x2, x3, l2, rfl, D2⟩
      have hi7 : i < 7 := by omega
      have D2 : Dr H2 m c l2 (900000 - 200 * (i + 1) + 100) := D2.less (by omega)
      refine ⟨_, rfl, m, c, l2, _, rfl, D2, fun cv C l3 H3 kp3 D3 O hcv => ?_⟩
      have sh := sh_cod O
      refine ⟨_, rfl, cv, C, rfl, O, hcv, fun H4 s4 => ?_⟩
      refine ⟨_, rfl, cv, C, rfl, O, dp_same s4 _ _ hcv, fun H5 s5 => ⟨rfl, _, rfl, iteNS rfl ?_⟩⟩
      have s35 := s4.trans s5
      refine ⟨_, rfl, cv, C, rfl, O, dp_same s35 _ _ hcv, fun H6 s6 => ?_⟩
      refine ⟨C, rfl, O, fun z H7 s7 hz => ?_⟩
      have s37 := (s35.trans s6).trans s7
      have hcv7 := dp_same s37 _ _ hcv
      have hcd : ∃ d, d = C.dat := ⟨_, rfl⟩
      obtain ⟨d, hd⟩ := hcd
      rw [← hd] at sh hz hcv7
      refine ⟨_, _, rfl, hz, sh.sh, sh.nd, Nat.le_trans sh.dp (by decide), sz_line (Nat.le_trans sh.le (by decide)), ?_⟩
      refine ⟨_, rfl, _, _, rfl, hcv7, sh.sh, sh.nd, Nat.le_trans sh.dp (by decide), sz_line (Nat.le_trans sh.le (by decide)), rfl, _, rfl, iteNS rfl ?_⟩
      refine ⟨_, rfl, cv, C, rfl, O, dp_same s37 _ _ hcv, fun H8 s8 => ?_⟩
      refine ⟨C, rfl, O, fun z2 H9 s9 hz2 => ?_⟩
      refine ⟨z2, C, rfl, O, hz2, fun H10 s10 => ?_⟩
      have s310 := ((s37.trans s8).trans s9).trans s10
      refine ⟨_, rfl, cv, C, rfl, O, dp_same s310 _ _ hcv, fun H11 s11 => ⟨rfl, _, rfl, iteNS rfl ?_⟩⟩
      exact ⟨_, _, l3, rfl, (D3.same (s310.trans s11)).less (by omega)⟩
    · rintro σ H2 ⟨x2, x3, l2, rfl, D2⟩
      exact q H2
end
end My

namespace My
open PySem PySem.Spec PyProof.Rows L2
set_option maxHeartbeats 0 in
theorem all_mk {l : PySem.W.OpenLaw} {w : World} {K : PySem.W.Frag} {h : Heap} {mg : Str → Option Value} {fa : Addr} (X : K.In h) (G : h.Ns mainGlobals mg) (hfa : mg "law" = some (.ref fa))
    {oc0 kV0 dc0 pm0 cd0 ct0 : Value} {od0 an0 : Option Addr} {sl0 : Array (Option Value)} {f0 : Addr}
    {oc1 kV1 dc1 pm1 cd1 ct1 : Value} {od1 an1 : Option Addr} {sl1 : Array (Option Value)} {f1 : Addr}
    {oc2 kV2 dc2 pm2 cd2 ct2 : Value} {od2 an2 : Option Addr} {sl2 : Array (Option Value)} {f2 : Addr}
    {oc3 kV3 dc3 pm3 cd3 ct3 : Value} {od3 an3 : Option Addr} {sl3 : Array (Option Value)} {f3 : Addr}
    {oc4 kV4 dc4 pm4 cd4 ct4 : Value} {od4 an4 : Option Addr} {sl4 : Array (Option Value)} {f4 : Addr}
    {oc5 kV5 dc5 pm5 cd5 ct5 : Value} {od5 an5 : Option Addr} {sl5 : Array (Option Value)} {f5 : Addr}
    {oc6 kV6 dc6 pm6 cd6 ct6 : Value} {od6 an6 : Option Addr} {sl6 : Array (Option Value)} {f6 : Addr}
    {oc7 kV7 dc7 pm7 cd7 ct7 : Value} {od7 an7 : Option Addr} {sl7 : Array (Option Value)} {f7 : Addr}
    {oc8 kV8 dc8 pm8 cd8 ct8 : Value} {od8 an8 : Option Addr} {sl8 : Array (Option Value)} {f8 : Addr}
    {oc9 kV9 dc9 pm9 cd9 ct9 : Value} {od9 an9 : Option Addr} {sl9 : Array (Option Value)} {f9 : Addr}
    {oc10 kV10 dc10 pm10 cd10 ct10 : Value} {od10 an10 : Option Addr} {sl10 : Array (Option Value)} {f10 : Addr}
    {oc11 kV11 dc11 pm11 cd11 ct11 : Value} {od11 an11 : Option Addr} {sl11 : Array (Option Value)} {f11 : Addr}
    {oc12 kV12 dc12 pm12 cd12 ct12 : Value} {od12 an12 : Option Addr} {sl12 : Array (Option Value)} {f12 : Addr}
    {oc13 kV13 dc13 pm13 cd13 ct13 : Value} {od13 an13 : Option Addr} {sl13 : Array (Option Value)} {f13 : Addr}
    {oc14 kV14 dc14 pm14 cd14 ct14 : Value} {od14 an14 : Option Addr} {sl14 : Array (Option Value)} {f14 : Addr}
    {oc15 kV15 dc15 pm15 cd15 ct15 : Value} {od15 an15 : Option Addr} {sl15 : Array (Option Value)} {f15 : Addr}
    {oc16 kV16 dc16 pm16 cd16 ct16 : Value} {od16 an16 : Option Addr} {sl16 : Array (Option Value)} {f16 : Addr}
    {oc17 kV17 dc17 pm17 cd17 ct17 : Value} {od17 an17 : Option Addr} {sl17 : Array (Option Value)} {f17 : Addr}
    {oc18 kV18 dc18 pm18 cd18 ct18 : Value} {od18 an18 : Option Addr} {sl18 : Array (Option Value)} {f18 : Addr}
    {oc19 kV19 dc19 pm19 cd19 ct19 : Value} {od19 an19 : Option Addr} {sl19 : Array (Option Value)} {f19 : Addr}
    {oc20 kV20 dc20 pm20 cd20 ct20 : Value} {od20 an20 : Option Addr} {sl20 : Array (Option Value)} {f20 : Addr}
    {oc21 kV21 dc21 pm21 cd21 ct21 : Value} {od21 an21 : Option Addr} {sl21 : Array (Option Value)} {f21 : Addr}
    {oc22 kV22 dc22 pm22 cd22 ct22 : Value} {od22 an22 : Option Addr} {sl22 : Array (Option Value)} {f22 : Addr}
    {oc23 kV23 dc23 pm23 cd23 ct23 : Value} {od23 an23 : Option Addr} {sl23 : Array (Option Value)} {f23 : Addr}
    {tDG : Tok}
    (a0 : PySem.W.nsIn K mainGlobals "is_integer" = some (some (.ref f0)))
    (l0 : K.lookup f0 = some ⟨oc0, od0, .func (PySem.W.fnOf "is_integer" "is_integer" (defArgs s_is_integer) (defBody s_is_integer) (defScope s_is_integer) .none kV0 dc0 pm0 an0 cd0 ct0), sl0⟩)
    (c0 : PySem.W.codeIn K cd0 "is_integer" = true)
    (k0 : PySem.W.keepIn K (.ref f0) = true)
    (a1 : PySem.W.nsIn K mainGlobals "is_between" = some (some (.ref f1)))
    (l1 : K.lookup f1 = some ⟨oc1, od1, .func (PySem.W.fnOf "is_between" "is_between" (defArgs s_is_between) (defBody s_is_between) (defScope s_is_between) .none kV1 dc1 pm1 an1 cd1 ct1), sl1⟩)
    (c1 : PySem.W.codeIn K cd1 "is_between" = true)
    (k1 : PySem.W.keepIn K (.ref f1) = true)
    (a2 : PySem.W.nsIn K mainGlobals "is_pair" = some (some (.ref f2)))
    (l2 : K.lookup f2 = some ⟨oc2, od2, .func (PySem.W.fnOf "is_pair" "is_pair" (defArgs s_is_pair) (defBody s_is_pair) (defScope s_is_pair) .none kV2 dc2 pm2 an2 cd2 ct2), sl2⟩)
    (c2 : PySem.W.codeIn K cd2 "is_pair" = true)
    (k2 : PySem.W.keepIn K (.ref f2) = true)
    (a3 : PySem.W.nsIn K mainGlobals "need_coder" = some (some (.ref f3)))
    (l3 : K.lookup f3 = some ⟨oc3, od3, .func (PySem.W.fnOf "need_coder" "need_coder" (defArgs s_need_coder) (defBody s_need_coder) (defScope s_need_coder) .none kV3 dc3 pm3 an3 cd3 ct3), sl3⟩)
    (c3 : PySem.W.codeIn K cd3 "need_coder" = true)
    (k3 : PySem.W.keepIn K (.ref f3) = true)
    (a4 : PySem.W.nsIn K mainGlobals "_first_fault" = some (some (.ref f4)))
    (l4 : K.lookup f4 = some ⟨oc4, od4, .func (PySem.W.fnOf "_first_fault" "_first_fault" (defArgs s_first_fault) (defBody s_first_fault) (defScope s_first_fault) .none kV4 dc4 pm4 an4 cd4 ct4), sl4⟩)
    (c4 : PySem.W.codeIn K cd4 "_first_fault" = true)
    (k4 : PySem.W.keepIn K (.ref f4) = true)
    (a5 : PySem.W.nsIn K mainGlobals "_fault_of_steps" = some (some (.ref f5)))
    (l5 : K.lookup f5 = some ⟨oc5, od5, .func (PySem.W.fnOf "_fault_of_steps" "_fault_of_steps" (defArgs s_fault_of_steps) (defBody s_fault_of_steps) (defScope s_fault_of_steps) .none kV5 dc5 pm5 an5 cd5 ct5), sl5⟩)
    (c5 : PySem.W.codeIn K cd5 "_fault_of_steps" = true)
    (k5 : PySem.W.keepIn K (.ref f5) = true)
    (a6 : PySem.W.nsIn K mainGlobals "_fault_of_moves" = some (some (.ref f6)))
    (l6 : K.lookup f6 = some ⟨oc6, od6, .func (PySem.W.fnOf "_fault_of_moves" "_fault_of_moves" (defArgs s_fault_of_moves) (defBody s_fault_of_moves) (defScope s_fault_of_moves) .none kV6 dc6 pm6 an6 cd6 ct6), sl6⟩)
    (c6 : PySem.W.codeIn K cd6 "_fault_of_moves" = true)
    (k6 : PySem.W.keepIn K (.ref f6) = true)
    (a7 : PySem.W.nsIn K mainGlobals "_is_tuple_of" = some (some (.ref f7)))
    (l7 : K.lookup f7 = some ⟨oc7, od7, .func (PySem.W.fnOf "_is_tuple_of" "_is_tuple_of" (defArgs s_is_tuple_of) (defBody s_is_tuple_of) (defScope s_is_tuple_of) .none kV7 dc7 pm7 an7 cd7 ct7), sl7⟩)
    (c7 : PySem.W.codeIn K cd7 "_is_tuple_of" = true)
    (k7 : PySem.W.keepIn K (.ref f7) = true)
    (a8 : PySem.W.nsIn K mainGlobals "_is_move" = some (some (.ref f8)))
    (l8 : K.lookup f8 = some ⟨oc8, od8, .func (PySem.W.fnOf "_is_move" "_is_move" (defArgs s_is_move) (defBody s_is_move) (defScope s_is_move) .none kV8 dc8 pm8 an8 cd8 ct8), sl8⟩)
    (c8 : PySem.W.codeIn K cd8 "_is_move" = true)
    (k8 : PySem.W.keepIn K (.ref f8) = true)
    (a9 : PySem.W.nsIn K mainGlobals "_is_fade" = some (some (.ref f9)))
    (l9 : K.lookup f9 = some ⟨oc9, od9, .func (PySem.W.fnOf "_is_fade" "_is_fade" (defArgs s_is_fade) (defBody s_is_fade) (defScope s_is_fade) .none kV9 dc9 pm9 an9 cd9 ct9), sl9⟩)
    (c9 : PySem.W.codeIn K cd9 "_is_fade" = true)
    (k9 : PySem.W.keepIn K (.ref f9) = true)
    (a10 : PySem.W.nsIn K mainGlobals "coder_text" = some (some (.ref f10)))
    (l10 : K.lookup f10 = some ⟨oc10, od10, .func (PySem.W.fnOf "coder_text" "coder_text" (defArgs s_coder_text) (defBody s_coder_text) (defScope s_coder_text) .none kV10 dc10 pm10 an10 cd10 ct10), sl10⟩)
    (c10 : PySem.W.codeIn K cd10 "coder_text" = true)
    (k10 : PySem.W.keepIn K (.ref f10) = true)
    (a11 : PySem.W.nsIn K mainGlobals "read_coder" = some (some (.ref f11)))
    (l11 : K.lookup f11 = some ⟨oc11, od11, .func (PySem.W.fnOf "read_coder" "read_coder" (defArgs s_read_coder) (defBody s_read_coder) (defScope s_read_coder) .none kV11 dc11 pm11 an11 cd11 ct11), sl11⟩)
    (c11 : PySem.W.codeIn K cd11 "read_coder" = true)
    (k11 : PySem.W.keepIn K (.ref f11) = true)
    (a12 : PySem.W.nsIn K mainGlobals "_spaced" = some (some (.ref f12)))
    (l12 : K.lookup f12 = some ⟨oc12, od12, .func (PySem.W.fnOf "_spaced" "_spaced" (defArgs s_spaced) (defBody s_spaced) (defScope s_spaced) .none kV12 dc12 pm12 an12 cd12 ct12), sl12⟩)
    (c12 : PySem.W.codeIn K cd12 "_spaced" = true)
    (k12 : PySem.W.keepIn K (.ref f12) = true)
    (a13 : PySem.W.nsIn K mainGlobals "_need_text" = some (some (.ref f13)))
    (l13 : K.lookup f13 = some ⟨oc13, od13, .func (PySem.W.fnOf "_need_text" "_need_text" (defArgs s_need_text) (defBody s_need_text) (defScope s_need_text) .none kV13 dc13 pm13 an13 cd13 ct13), sl13⟩)
    (c13 : PySem.W.codeIn K cd13 "_need_text" = true)
    (k13 : PySem.W.keepIn K (.ref f13) = true)
    (a14 : PySem.W.nsIn K mainGlobals "_need_no_empty_word" = some (some (.ref f14)))
    (l14 : K.lookup f14 = some ⟨oc14, od14, .func (PySem.W.fnOf "_need_no_empty_word" "_need_no_empty_word" (defArgs s_need_no_empty_word) (defBody s_need_no_empty_word) (defScope s_need_no_empty_word) .none kV14 dc14 pm14 an14 cd14 ct14), sl14⟩)
    (c14 : PySem.W.codeIn K cd14 "_need_no_empty_word" = true)
    (k14 : PySem.W.keepIn K (.ref f14) = true)
    (a15 : PySem.W.nsIn K mainGlobals "_need_coder_row" = some (some (.ref f15)))
    (l15 : K.lookup f15 = some ⟨oc15, od15, .func (PySem.W.fnOf "_need_coder_row" "_need_coder_row" (defArgs s_need_coder_row) (defBody s_need_coder_row) (defScope s_need_coder_row) .none kV15 dc15 pm15 an15 cd15 ct15), sl15⟩)
    (c15 : PySem.W.codeIn K cd15 "_need_coder_row" = true)
    (k15 : PySem.W.keepIn K (.ref f15) = true)
    (a16 : PySem.W.nsIn K mainGlobals "_need_row_form" = some (some (.ref f16)))
    (l16 : K.lookup f16 = some ⟨oc16, od16, .func (PySem.W.fnOf "_need_row_form" "_need_row_form" (defArgs s_need_row_form) (defBody s_need_row_form) (defScope s_need_row_form) .none kV16 dc16 pm16 an16 cd16 ct16), sl16⟩)
    (c16 : PySem.W.codeIn K cd16 "_need_row_form" = true)
    (k16 : PySem.W.keepIn K (.ref f16) = true)
    (a17 : PySem.W.nsIn K mainGlobals "_is_number" = some (some (.ref f17)))
    (l17 : K.lookup f17 = some ⟨oc17, od17, .func (PySem.W.fnOf "_is_number" "_is_number" (defArgs s_is_number) (defBody s_is_number) (defScope s_is_number) .none kV17 dc17 pm17 an17 cd17 ct17), sl17⟩)
    (c17 : PySem.W.codeIn K cd17 "_is_number" = true)
    (k17 : PySem.W.keepIn K (.ref f17) = true)
    (a18 : PySem.W.nsIn K mainGlobals "_numbers_of" = some (some (.ref f18)))
    (l18 : K.lookup f18 = some ⟨oc18, od18, .func (PySem.W.fnOf "_numbers_of" "_numbers_of" (defArgs s_numbers_of) (defBody s_numbers_of) (defScope s_numbers_of) .none kV18 dc18 pm18 an18 cd18 ct18), sl18⟩)
    (c18 : PySem.W.codeIn K cd18 "_numbers_of" = true)
    (k18 : PySem.W.keepIn K (.ref f18) = true)
    (a19 : PySem.W.nsIn K mainGlobals "_law_begun" = some (some (.ref f19)))
    (l19 : K.lookup f19 = some ⟨oc19, od19, .func (PySem.W.fnOf "_law_begun" "_law_begun" (defArgs s_law_begun) (defBody s_law_begun) (defScope s_law_begun) .none kV19 dc19 pm19 an19 cd19 ct19), sl19⟩)
    (c19 : PySem.W.codeIn K cd19 "_law_begun" = true)
    (k19 : PySem.W.keepIn K (.ref f19) = true)
    (a20 : PySem.W.nsIn K mainGlobals "_law_next" = some (some (.ref f20)))
    (l20 : K.lookup f20 = some ⟨oc20, od20, .func (PySem.W.fnOf "_law_next" "_law_next" (defArgs s_law_next) (defBody s_law_next) (defScope s_law_next) .none kV20 dc20 pm20 an20 cd20 ct20), sl20⟩)
    (c20 : PySem.W.codeIn K cd20 "_law_next" = true)
    (k20 : PySem.W.keepIn K (.ref f20) = true)
    (a21 : PySem.W.nsIn K mainGlobals "_law_wide" = some (some (.ref f21)))
    (l21 : K.lookup f21 = some ⟨oc21, od21, .func (PySem.W.fnOf "_law_wide" "_law_wide" (defArgs s_law_wide) (defBody s_law_wide) (defScope s_law_wide) .none kV21 dc21 pm21 an21 cd21 ct21), sl21⟩)
    (c21 : PySem.W.codeIn K cd21 "_law_wide" = true)
    (k21 : PySem.W.keepIn K (.ref f21) = true)
    (a22 : PySem.W.nsIn K mainGlobals "_law_text" = some (some (.ref f22)))
    (l22 : K.lookup f22 = some ⟨oc22, od22, .func (PySem.W.fnOf "_law_text" "_law_text" (defArgs s_law_text) (defBody s_law_text) (defScope s_law_text) .none kV22 dc22 pm22 an22 cd22 ct22), sl22⟩)
    (c22 : PySem.W.codeIn K cd22 "_law_text" = true)
    (k22 : PySem.W.keepIn K (.ref f22) = true)
    (a23 : PySem.W.nsIn K mainGlobals "law" = some (some (.ref f23)))
    (l23 : K.lookup f23 = some ⟨oc23, od23, .func (PySem.W.fnOf "law" "law" (defArgs s_law) (defBody s_law) (defScope s_law) .none kV23 dc23 pm23 an23 cd23 ct23), sl23⟩)
    (c23 : PySem.W.codeIn K cd23 "law" = true)
    (k23 : PySem.W.keepIn K (.ref f23) = true)
    (z_all : PySem.W.nsIn K mainGlobals "all" = some none)
    (z_bool : PySem.W.nsIn K mainGlobals "bool" = some none)
    (z_enumerate : PySem.W.nsIn K mainGlobals "enumerate" = some none)
    (z_int : PySem.W.nsIn K mainGlobals "int" = some none)
    (z_isinstance : PySem.W.nsIn K mainGlobals "isinstance" = some none)
    (z_len : PySem.W.nsIn K mainGlobals "len" = some none)
    (z_list : PySem.W.nsIn K mainGlobals "list" = some none)
    (z_min : PySem.W.nsIn K mainGlobals "min" = some none)
    (z_range : PySem.W.nsIn K mainGlobals "range" = some none)
    (z_repr : PySem.W.nsIn K mainGlobals "repr" = some none)
    (z_str : PySem.W.nsIn K mainGlobals "str" = some none)
    (z_tuple : PySem.W.nsIn K mainGlobals "tuple" = some none)
    (dg : PySem.W.nsIn K mainGlobals "DIGITS" = some (some (.str "0123456789" tDG))) :
    ∃ fd : FuncData, (∀ (s : Shared) (v : Value), BindsTo s fd ⟨[v], []⟩ [("script", v)]) ∧ ∀ base : Heap, K.In base → base.Ns mainGlobals mg → FnG l.prog w K mg base 9 fa fd ["script"] (sp_law (K := K)) := by
  have e := hfa.symm.trans (PySem.W.mg_of X G a23)
  cases e
  have F0 := fun_mk (st := s_is_integer) l0 c0 k0
  have B0 := F0.binds (ps := ["thing"]) fun _ _ _ _ _ _ us hl => match us, hl with | [_], _ => rfl
  have F1 := fun_mk (st := s_is_between) l1 c1 k1
  have B1 := F1.binds (ps := ["thing", "least", "most"]) fun _ _ _ _ _ _ us hl => match us, hl with | [_, _, _], _ => rfl
  have F2 := fun_mk (st := s_is_pair) l2 c2 k2
  have B2 := F2.binds (ps := ["thing"]) fun _ _ _ _ _ _ us hl => match us, hl with | [_], _ => rfl
  have F3 := fun_mk (st := s_need_coder) l3 c3 k3
  have B3 := F3.binds (ps := ["thing"]) fun _ _ _ _ _ _ us hl => match us, hl with | [_], _ => rfl
  have F4 := fun_mk (st := s_first_fault) l4 c4 k4
  have B4 := F4.binds (ps := ["thing"]) fun _ _ _ _ _ _ us hl => match us, hl with | [_], _ => rfl
  have F5 := fun_mk (st := s_fault_of_steps) l5 c5 k5
  have B5 := F5.binds (ps := ["steps"]) fun _ _ _ _ _ _ us hl => match us, hl with | [_], _ => rfl
  have F6 := fun_mk (st := s_fault_of_moves) l6 c6 k6
  have B6 := F6.binds (ps := ["moves"]) fun _ _ _ _ _ _ us hl => match us, hl with | [_], _ => rfl
  have F7 := fun_mk (st := s_is_tuple_of) l7 c7 k7
  have B7 := F7.binds (ps := ["thing", "least", "most"]) fun _ _ _ _ _ _ us hl => match us, hl with | [_, _, _], _ => rfl
  have F8 := fun_mk (st := s_is_move) l8 c8 k8
  have B8 := F8.binds (ps := ["thing"]) fun _ _ _ _ _ _ us hl => match us, hl with | [_], _ => rfl
  have F9 := fun_mk (st := s_is_fade) l9 c9 k9
  have B9 := F9.binds (ps := ["thing"]) fun _ _ _ _ _ _ us hl => match us, hl with | [_], _ => rfl
  have F10 := fun_mk (st := s_coder_text) l10 c10 k10
  have B10 := F10.binds (ps := ["coder"]) fun _ _ _ _ _ _ us hl => match us, hl with | [_], _ => rfl
  have F11 := fun_mk (st := s_read_coder) l11 c11 k11
  have B11 := F11.binds (ps := ["text"]) fun _ _ _ _ _ _ us hl => match us, hl with | [_], _ => rfl
  have F12 := fun_mk (st := s_spaced) l12 c12 k12
  have B12 := F12.binds (ps := ["numbers"]) fun _ _ _ _ _ _ us hl => match us, hl with | [_], _ => rfl
  have F13 := fun_mk (st := s_need_text) l13 c13 k13
  have B13 := F13.binds (ps := ["thing"]) fun _ _ _ _ _ _ us hl => match us, hl with | [_], _ => rfl
  have F14 := fun_mk (st := s_need_no_empty_word) l14 c14 k14
  have B14 := F14.binds (ps := ["row", "words"]) fun _ _ _ _ _ _ us hl => match us, hl with | [_, _], _ => rfl
  have F15 := fun_mk (st := s_need_coder_row) l15 c15 k15
  have B15 := F15.binds (ps := ["index", "words"]) fun _ _ _ _ _ _ us hl => match us, hl with | [_, _], _ => rfl
  have F16 := fun_mk (st := s_need_row_form) l16 c16 k16
  have B16 := F16.binds (ps := ["row", "words", "name", "least", "most"]) fun _ _ _ _ _ _ us hl => match us, hl with | [_, _, _, _, _], _ => rfl
  have F17 := fun_mk (st := s_is_number) l17 c17 k17
  have B17 := F17.binds (ps := ["word"]) fun _ _ _ _ _ _ us hl => match us, hl with | [_], _ => rfl
  have F18 := fun_mk (st := s_numbers_of) l18 c18 k18
  have B18 := F18.binds (ps := ["words"]) fun _ _ _ _ _ _ us hl => match us, hl with | [_], _ => rfl
  have F19 := fun_mk (st := s_law_begun) l19 c19 k19
  have B19 := F19.binds (ps := ["script"]) fun _ _ _ _ _ _ us hl => match us, hl with | [_], _ => rfl
  have F20 := fun_mk (st := s_law_next) l20 c20 k20
  have B20 := F20.binds (ps := ["m", "many"]) fun _ _ _ _ _ _ us hl => match us, hl with | [_, _], _ => rfl
  have F21 := fun_mk (st := s_law_wide) l21 c21 k21
  have B21 := F21.binds (ps := ["m"]) fun _ _ _ _ _ _ us hl => match us, hl with | [_], _ => rfl
  have F22 := fun_mk (st := s_law_text) l22 c22 k22
  have B22 := F22.binds (ps := ["coder"]) fun _ _ _ _ _ _ us hl => match us, hl with | [_], _ => rfl
  have F23 := fun_mk (st := s_law) l23 c23 k23
  have B23 := F23.binds (ps := ["script"]) fun _ _ _ _ _ _ us hl => match us, hl with | [_], _ => rfl
  let T : Txt K mg := {
    f_is_integer := f0, d_is_integer := _, F_is_integer := F0, b_is_integer := B0, g_is_integer := PySem.W.mg_of X G a0,
    f_is_between := f1, d_is_between := _, F_is_between := F1, b_is_between := B1, g_is_between := PySem.W.mg_of X G a1,
    f_is_pair := f2, d_is_pair := _, F_is_pair := F2, b_is_pair := B2, g_is_pair := PySem.W.mg_of X G a2,
    f_need_coder := f3, d_need_coder := _, F_need_coder := F3, b_need_coder := B3, g_need_coder := PySem.W.mg_of X G a3,
    f__first_fault := f4, d__first_fault := _, F__first_fault := F4, b__first_fault := B4, g__first_fault := PySem.W.mg_of X G a4,
    f__fault_of_steps := f5, d__fault_of_steps := _, F__fault_of_steps := F5, b__fault_of_steps := B5, g__fault_of_steps := PySem.W.mg_of X G a5,
    f__fault_of_moves := f6, d__fault_of_moves := _, F__fault_of_moves := F6, b__fault_of_moves := B6, g__fault_of_moves := PySem.W.mg_of X G a6,
    f__is_tuple_of := f7, d__is_tuple_of := _, F__is_tuple_of := F7, b__is_tuple_of := B7, g__is_tuple_of := PySem.W.mg_of X G a7,
    f__is_move := f8, d__is_move := _, F__is_move := F8, b__is_move := B8, g__is_move := PySem.W.mg_of X G a8,
    f__is_fade := f9, d__is_fade := _, F__is_fade := F9, b__is_fade := B9, g__is_fade := PySem.W.mg_of X G a9,
    f_coder_text := f10, d_coder_text := _, F_coder_text := F10, b_coder_text := B10, g_coder_text := PySem.W.mg_of X G a10,
    f_read_coder := f11, d_read_coder := _, F_read_coder := F11, b_read_coder := B11, g_read_coder := PySem.W.mg_of X G a11,
    f__spaced := f12, d__spaced := _, F__spaced := F12, b__spaced := B12, g__spaced := PySem.W.mg_of X G a12,
    f__need_text := f13, d__need_text := _, F__need_text := F13, b__need_text := B13, g__need_text := PySem.W.mg_of X G a13,
    f__need_no_empty_word := f14, d__need_no_empty_word := _, F__need_no_empty_word := F14, b__need_no_empty_word := B14, g__need_no_empty_word := PySem.W.mg_of X G a14,
    f__need_coder_row := f15, d__need_coder_row := _, F__need_coder_row := F15, b__need_coder_row := B15, g__need_coder_row := PySem.W.mg_of X G a15,
    f__need_row_form := f16, d__need_row_form := _, F__need_row_form := F16, b__need_row_form := B16, g__need_row_form := PySem.W.mg_of X G a16,
    f__is_number := f17, d__is_number := _, F__is_number := F17, b__is_number := B17, g__is_number := PySem.W.mg_of X G a17,
    f__numbers_of := f18, d__numbers_of := _, F__numbers_of := F18, b__numbers_of := B18, g__numbers_of := PySem.W.mg_of X G a18,
    f__law_begun := f19, d__law_begun := _, F__law_begun := F19, b__law_begun := B19, g__law_begun := PySem.W.mg_of X G a19,
    f__law_next := f20, d__law_next := _, F__law_next := F20, b__law_next := B20, g__law_next := PySem.W.mg_of X G a20,
    f__law_wide := f21, d__law_wide := _, F__law_wide := F21, b__law_wide := B21, g__law_wide := PySem.W.mg_of X G a21,
    f__law_text := f22, d__law_text := _, F__law_text := F22, b__law_text := B22, g__law_text := PySem.W.mg_of X G a22,
    f_law := fa, d_law := _, F_law := F23, b_law := B23, g_law := hfa,
    z_all := PySem.W.mg_none_of X G z_all,
    z_bool := PySem.W.mg_none_of X G z_bool,
    z_enumerate := PySem.W.mg_none_of X G z_enumerate,
    z_int := PySem.W.mg_none_of X G z_int,
    z_isinstance := PySem.W.mg_none_of X G z_isinstance,
    z_len := PySem.W.mg_none_of X G z_len,
    z_list := PySem.W.mg_none_of X G z_list,
    z_min := PySem.W.mg_none_of X G z_min,
    z_range := PySem.W.mg_none_of X G z_range,
    z_repr := PySem.W.mg_none_of X G z_repr,
    z_str := PySem.W.mg_none_of X G z_str,
    z_tuple := PySem.W.mg_none_of X G z_tuple,
    t_DIGITS := tDG, g_DIGITS := PySem.W.mg_of X G dg }
  exact ⟨_, fun s v => .of_eq rfl, fun base _ _ => ok_law T⟩
end My
open PySem PySem.W PyProof.Rows
set_option maxRecDepth 100000 in
set_option maxHeartbeats 0 in
theorem PySem.Challenge.cw_stepsound_k25_whole_texts_of_coders_holds : PySem.Challenge.rw_stepsound_k25_whole_texts_of_coders.Holds := by
  w_on; o_law; k_head; (case hw => w_witness2)
  k_fill
  refine My.walk_ofG (l := PySem.Challenge.rw_stepsound_k25_whole_texts_of_coders) (n := 63) (k := 9) (x := "script") (sp := fun K => My.sp_law (K := K)) rfl (by decide) rfl ⟨rfl, by decide, by decide⟩ (fun w h Y => PySem.W.kIn_of Y) ?F (fun K H a ns hl _ hS => ⟨a, ns, rfl, hS, hl, fun _ => rfl⟩)
  case F =>
    intro w mg fa h KX G hmg
    refine' My.all_mk KX G hmg ?a0 ?l0 ?c0 ?k0 ?a1 ?l1 ?c1 ?k1 ?a2 ?l2 ?c2 ?k2 ?a3 ?l3 ?c3 ?k3 ?a4 ?l4 ?c4 ?k4 ?a5 ?l5 ?c5 ?k5 ?a6 ?l6 ?c6 ?k6 ?a7 ?l7 ?c7 ?k7 ?a8 ?l8 ?c8 ?k8 ?a9 ?l9 ?c9 ?k9 ?a10 ?l10 ?c10 ?k10 ?a11 ?l11 ?c11 ?k11 ?a12 ?l12 ?c12 ?k12 ?a13 ?l13 ?c13 ?k13 ?a14 ?l14 ?c14 ?k14 ?a15 ?l15 ?c15 ?k15 ?a16 ?l16 ?c16 ?k16 ?a17 ?l17 ?c17 ?k17 ?a18 ?l18 ?c18 ?k18 ?a19 ?l19 ?c19 ?k19 ?a20 ?l20 ?c20 ?k20 ?a21 ?l21 ?c21 ?k21 ?a22 ?l22 ?c22 ?k22 ?a23 ?l23 ?c23 ?k23 ?z_all ?z_bool ?z_enumerate ?z_int ?z_isinstance ?z_len ?z_list ?z_min ?z_range ?z_repr ?z_str ?z_tuple ?dg
    (case a0 => k_is)
    (case l0 => k_is)
    (case c0 => k_is)
    (case k0 => k_is)
    (case a1 => k_is)
    (case l1 => k_is)
    (case c1 => k_is)
    (case k1 => k_is)
    (case a2 => k_is)
    (case l2 => k_is)
    (case c2 => k_is)
    (case k2 => k_is)
    (case a3 => k_is)
    (case l3 => k_is)
    (case c3 => k_is)
    (case k3 => k_is)
    (case a4 => k_is)
    (case l4 => k_is)
    (case c4 => k_is)
    (case k4 => k_is)
    (case a5 => k_is)
    (case l5 => k_is)
    (case c5 => k_is)
    (case k5 => k_is)
    (case a6 => k_is)
    (case l6 => k_is)
    (case c6 => k_is)
    (case k6 => k_is)
    (case a7 => k_is)
    (case l7 => k_is)
    (case c7 => k_is)
    (case k7 => k_is)
    (case a8 => k_is)
    (case l8 => k_is)
    (case c8 => k_is)
    (case k8 => k_is)
    (case a9 => k_is)
    (case l9 => k_is)
    (case c9 => k_is)
    (case k9 => k_is)
    (case a10 => k_is)
    (case l10 => k_is)
    (case c10 => k_is)
    (case k10 => k_is)
    (case a11 => k_is)
    (case l11 => k_is)
    (case c11 => k_is)
    (case k11 => k_is)
    (case a12 => k_is)
    (case l12 => k_is)
    (case c12 => k_is)
    (case k12 => k_is)
    (case a13 => k_is)
    (case l13 => k_is)
    (case c13 => k_is)
    (case k13 => k_is)
    (case a14 => k_is)
    (case l14 => k_is)
    (case c14 => k_is)
    (case k14 => k_is)
    (case a15 => k_is)
    (case l15 => k_is)
    (case c15 => k_is)
    (case k15 => k_is)
    (case a16 => k_is)
    (case l16 => k_is)
    (case c16 => k_is)
    (case k16 => k_is)
    (case a17 => k_is)
    (case l17 => k_is)
    (case c17 => k_is)
    (case k17 => k_is)
    (case a18 => k_is)
    (case l18 => k_is)
    (case c18 => k_is)
    (case k18 => k_is)
    (case a19 => k_is)
    (case l19 => k_is)
    (case c19 => k_is)
    (case k19 => k_is)
    (case a20 => k_is)
    (case l20 => k_is)
    (case c20 => k_is)
    (case k20 => k_is)
    (case a21 => k_is)
    (case l21 => k_is)
    (case c21 => k_is)
    (case k21 => k_is)
    (case a22 => k_is)
    (case l22 => k_is)
    (case c22 => k_is)
    (case k22 => k_is)
    (case a23 => k_is)
    (case l23 => k_is)
    (case c23 => k_is)
    (case k23 => k_is)
    (case z_all => k_is)
    (case z_bool => k_is)
    (case z_enumerate => k_is)
    (case z_int => k_is)
    (case z_isinstance => k_is)
    (case z_len => k_is)
    (case z_list => k_is)
    (case z_min => k_is)
    (case z_range => k_is)
    (case z_repr => k_is)
    (case z_str => k_is)
    (case z_tuple => k_is)
    (case dg => k_is)


