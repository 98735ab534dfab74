package read_test

import (
	"strings"
	"testing"

	"accidence/api"
	"accidence/edge"
	"accidence/lex"
	"accidence/read"
	"accidence/sample"
)

// written is a word that is written, and where it, and the alternative that begins with it, are told to be, or -1.
type written struct {
	text    string
	at, alt int
}

// is tells whether it is a word of a text, at its place.
func (w written) is(word lex.Token) bool {
	return w.text == plain(word) && (w.at < 0 || w.at == word.At) && (w.alt < 0 || w.alt == word.At)
}

// writer writes what was read.
type writer struct {
	words []written
	// alt is the place of the alternative whose first word is to be written yet, or -1.
	alt int
}

// plain is a word as a writer writes it.
func plain(word lex.Token) string {
	switch word.Kind {
	case lex.Quote:
		return "'" + word.Text + "'"
	case lex.Weight:
		return "%" + edge.Text(word.Weight)
	}
	return word.Text
}

func (w *writer) word(text string, at int) {
	w.words = append(w.words, written{text, at, w.alt})
	w.alt = -1
}

func (w *writer) defs(list []read.Def) {
	w.alt = -1
	for _, d := range list {
		w.word(d.Name, d.At)
		w.word("=", -1)
		w.alts(d.Alts)
		w.word(";", -1)
	}
}

func (w *writer) alts(list []read.Alt) {
	for i, a := range list {
		if i > 0 {
			w.word("|", -1)
		}
		w.alt = a.At
		if !edge.Same(a.Weight, 0) {
			w.word("%"+edge.Text(a.Weight), -1)
		}
		for _, item := range a.Items {
			w.item(item)
		}
	}
}

func (w *writer) item(item read.Item) {
	switch {
	case item.Kind == read.Var && item.Alts == nil:
		w.word(item.Text, item.At)
	case item.Kind == read.Term && item.Alts == nil:
		w.word("'"+item.Text+"'", item.At)
	case item.Kind == read.Group && item.Text == "" && len(item.Alts) > 0:
		w.word("(", item.At)
		w.alts(item.Alts)
		w.word(")", -1)
	default:
		w.word("no item", item.At)
	}
	if item.Op != 0 {
		w.word(string([]byte{item.Op}), -1)
	}
}

// lay is the text of written words, with blanks and remarks between, and where each word of it begins.
func lay(r *sample.Roll, words []written) (string, []int) {
	var s strings.Builder
	s.WriteString(gap(r))
	var at []int
	for _, w := range words {
		at = append(at, s.Len())
		s.WriteString(w.text)
		s.WriteString(gap(r))
	}
	return s.String(), at
}

// someDefs is definitions of whatever kind, the places of which aren't set.
func someDefs(r *sample.Roll) []read.Def {
	list := make([]read.Def, 1+r.Of(4))
	for i := range list {
		list[i] = read.Def{Name: someName(r), Alts: someAlts(r, 0)}
	}
	return list
}

func someAlts(r *sample.Roll, deep int) []read.Alt {
	list := make([]read.Alt, 1+r.Of(3))
	for i := range list {
		text := []string{"0", "0", "0", "-0", "nan", "inf", "-inf", "1", "-2.5", "0.000001", "999999999.999999"}[r.Of(11)]
		list[i].Weight, _ = edge.Read(text)
		for range r.Of(4) {
			list[i].Items = append(list[i].Items, someItem(r, deep))
		}
	}
	return list
}

func someItem(r *sample.Roll, deep int) read.Item {
	item := read.Item{Kind: r.Of(3), Op: []byte{0, 0, '?', '*', '+'}[r.Of(5)]}
	if item.Kind == read.Group && (deep == 16 || deep > 2 && r.Of(3) > 0) {
		item.Kind = read.Term
	}
	switch item.Kind {
	case read.Var:
		item.Text = someName(r)
	case read.Term:
		item.Text = []string{"a", " ", "# ", "|", "%1", "0123456789abcdef", "~\"\\"}[r.Of(7)]
	case read.Group:
		item.Alts = someAlts(r, deep+1)
	}
	return item
}

func someName(r *sample.Roll) string {
	return []string{"a", "b", "E", "g1", "Name_1_", "abcdefghijklmnopqrstuvwx"}[r.Of(6)]
}

// put puts in all places of definitions, in the order in which their words are written.
type put struct {
	at   []int
	next int
}

func (p *put) word() int {
	p.next++
	return p.at[p.next-1]
}

func (p *put) defs(list []read.Def) {
	for i := range list {
		list[i].At = p.word()
		p.word()
		p.alts(list[i].Alts)
		p.word()
	}
}

func (p *put) alts(list []read.Alt) {
	for i := range list {
		a := &list[i]
		if i > 0 {
			p.word()
		}
		a.At = p.at[p.next]
		if !edge.Same(a.Weight, 0) {
			p.word()
		}
		for j := range a.Items {
			a.Items[j].At = p.word()
			if a.Items[j].Kind == read.Group {
				p.alts(a.Items[j].Alts)
				p.word()
			}
			if a.Items[j].Op != 0 {
				p.word()
			}
		}
	}
}

// P5.1, P5.2: whatever definitions are written are read as they are, with their places; written again, and laid otherwise, they are read as the same but for places.
func TestWrittenAgain(t *testing.T) {
	r := sample.Roll(11)
	groups := 0
	for range 5000 {
		defs := someDefs(&r)
		for range 2 {
			var w writer
			w.defs(defs)
			s, at := lay(&r, w.words)
			if len(s) > api.MaxText {
				break
			}
			groups += strings.Count(s, "(")
			p := put{at: at}
			p.defs(defs)
			right(t, s, defs...)
			defs, _ = read.Parse(s)
		}
		if t.Failed() {
			break
		}
	}
	if groups < 1000 {
		t.Errorf("%d groups only", groups)
	}
}

// P5.2: texts that are unlike, but for blanks, remarks, weights' noughts and weights of 0, are read as unlike.
func TestUnlikeTexts(t *testing.T) {
	var seen []writer
	for _, s := range []string{"e=;", "f=;", "e=|;", "e=||;", "e=;e=;", "e=a;", "e='a';", "e=a a;", "e=a|a;", "e=a;a=;", "e=(a);", "e=(a)?;", "e=a?;", "e=a*;", "e=a+;", "e=(a?);", "e=(a|);", "e=(a)|;", "e=(|a);", "e=();", "e=(());", "e=()();", "e=%1;", "e=%-0;", "e=%nan;", "e=%1 a;", "e=%1|a;", "e=|%1 a;", "e=(%1 a);", "e=%1(a);"} {
		defs, f := read.Parse(s)
		if f.E != api.OK {
			t.Errorf("%q: %v", s, f)
		}
		var w writer
		w.defs(defs)
		for _, other := range seen {
			if text(w) == text(other) {
				t.Errorf("%q is read as another one is: %v", s, w.words)
			}
		}
		seen = append(seen, w)
	}
	zero, _ := read.Parse("e = a | %-1.5 b ;")
	nought, _ := read.Parse("e=%0 a|%-1.500 b#\n;")
	var v, w writer
	v.defs(zero)
	w.defs(nought)
	if text(v) != text(w) {
		t.Errorf("%q and %q", text(v), text(w))
	}
}

// text is written words, with a blank behind each.
func text(w writer) string {
	var s strings.Builder
	for _, word := range w.words {
		s.WriteString(word.text + " ")
	}
	return s.String()
}
