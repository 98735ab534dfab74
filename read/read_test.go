package read_test

import (
	"math"
	"slices"
	"strings"
	"testing"

	"accidence/api"
	"accidence/edge"
	"accidence/read"
)

func sameItem(a, b read.Item) bool {
	return a.At == b.At && a.Kind == b.Kind && a.Text == b.Text && a.Op == b.Op && slices.EqualFunc(a.Alts, b.Alts, sameAlt)
}

func sameAlt(a, b read.Alt) bool {
	return a.At == b.At && edge.Same(a.Weight, b.Weight) && slices.EqualFunc(a.Items, b.Items, sameItem)
}

func sameDef(a, b read.Def) bool {
	return a.At == b.At && a.Name == b.Name && slices.EqualFunc(a.Alts, b.Alts, sameAlt)
}

// right tells a fault if a text isn't these definitions.
func right(t *testing.T, s string, want ...read.Def) {
	t.Helper()
	got, fault := read.Parse(s)
	if fault != (api.Fault{}) || !slices.EqualFunc(got, want, sameDef) {
		t.Errorf("%.80q: %v, %v, want %v", s, got, fault, want)
	}
}

// wrong tells a fault if a text hasn't this fault, and nothing else.
func wrong(t *testing.T, s string, e api.Errno, at int) {
	t.Helper()
	got, fault := read.Parse(s)
	if got != nil || fault != (api.Fault{E: e, At: at}) {
		t.Errorf("%.80q: %v, %v, want %d at %d", s, got, fault, e, at)
	}
}

func def(at int, name string, alts ...read.Alt) read.Def {
	return read.Def{At: at, Name: name, Alts: alts}
}

func alt(at int, items ...read.Item) read.Alt { return read.Alt{At: at, Items: items} }

func weighed(at int, f float64, items ...read.Item) read.Alt {
	return read.Alt{At: at, Weight: f, Items: items}
}

func name(at int, s string, op byte) read.Item {
	return read.Item{At: at, Kind: read.Var, Text: s, Op: op}
}

func term(at int, s string, op byte) read.Item {
	return read.Item{At: at, Kind: read.Term, Text: s, Op: op}
}

func group(at int, op byte, alts ...read.Alt) read.Item {
	return read.Item{At: at, Kind: read.Group, Alts: alts, Op: op}
}

func TestKinds(t *testing.T) {
	if read.Var != 0 || read.Term != 1 || read.Group != 2 {
		t.Error("kinds")
	}
}

// P5.1: the chapter's examples.
func TestExamples(t *testing.T) {
	right(t, "e = %2 'a' (e | )* ; f = ;",
		def(0, "e", weighed(4, 2, term(7, "a", 0), group(11, '*', alt(12, name(12, "e", 0)), alt(16)))),
		def(21, "f", alt(25)))
	wrong(t, "e = ( ;", api.ErrWant, 6)
}

// P5.1: alternatives of no items are where the word behind them is, with a weight where that is.
func TestAlternatives(t *testing.T) {
	right(t, "e=;", def(0, "e", alt(2)))
	right(t, " e = # r\n ;", def(1, "e", alt(10)))
	right(t, "e = | ;", def(0, "e", alt(4), alt(6)))
	right(t, "e = || 'a' ;", def(0, "e", alt(4), alt(5), alt(7, term(7, "a", 0))))
	right(t, "e = 'a' | ;", def(0, "e", alt(4, term(4, "a", 0)), alt(10)))
	right(t, "e = %1 ;", def(0, "e", weighed(4, 1)))
	right(t, "e = %1 | %-2.5 'a' ;", def(0, "e", weighed(4, 1), weighed(9, -2.5, term(15, "a", 0))))
	right(t, "e = %1 'a' b | c | %2 d 'b' ;", def(0, "e",
		weighed(4, 1, term(7, "a", 0), name(11, "b", 0)),
		alt(15, name(15, "c", 0)),
		weighed(19, 2, name(22, "d", 0), term(24, "b", 0))))
	right(t, "e = e e e e ;", def(0, "e", alt(4, name(4, "e", 0), name(6, "e", 0), name(8, "e", 0), name(10, "e", 0))))
}

// P5.1: weights of all kinds; without one, or of 0, it is 0, and not -0.
func TestWeights(t *testing.T) {
	for s, f := range map[string]float64{
		"": 0, "%0": 0, "%0.0": 0, "%-0": math.Copysign(0, -1), "%1.50": 1.5, "%-7.25": -7.25, "%nan": math.NaN(), "%inf": math.Inf(1), "%-inf": math.Inf(-1), "%999999999.999999": 999999999.999999,
	} {
		right(t, "e="+s+";", def(0, "e", weighed(2, f)))
		right(t, "e="+s+"'a'|"+s+"'b';", def(0, "e", weighed(2, f, term(2+len(s), "a", 0)), weighed(6+len(s), f, term(6+2*len(s), "b", 0))))
		right(t, "e=("+s+");", def(0, "e", alt(2, group(2, 0, weighed(3, f)))))
	}
	got, _ := read.Parse("e = | %0 | %-0 ;")
	for i, below := range []bool{false, false, true} {
		if math.Signbit(got[0].Alts[i].Weight) != below {
			t.Errorf("the weight %d: %v", i, got[0].Alts[i].Weight)
		}
	}
}

// P5.1: the sign behind each kind of item.
func TestSigns(t *testing.T) {
	for _, op := range []byte{0, '?', '*', '+'} {
		s := strings.TrimLeft(string([]byte{op}), "\x00")
		n := len(s)
		right(t, "e=x"+s+";", def(0, "e", alt(2, name(2, "x", op))))
		right(t, "e='x'"+s+";", def(0, "e", alt(2, term(2, "x", op))))
		right(t, "e=(x)"+s+";", def(0, "e", alt(2, group(2, op, alt(3, name(3, "x", 0))))))
		right(t, "e=()"+s+";", def(0, "e", alt(2, group(2, op, alt(3)))))
		right(t, "e=(|)"+s+";", def(0, "e", alt(2, group(2, op, alt(3), alt(4)))))
		right(t, "e='*'"+s+"'('"+s+";", def(0, "e", alt(2, term(2, "*", op), term(5+n, "(", op))))
		right(t, "e=(x"+s+")y"+s+";", def(0, "e", alt(2, group(2, 0, alt(3, name(3, "x", op))), name(5+n, "y", op))))
	}
	right(t, "e = x # r\n ? y;", def(0, "e", alt(4, name(4, "x", '?'), name(13, "y", 0))))
	for _, two := range []string{"??", "**", "++", "?*", "+ ?", "*\n+"} {
		for _, item := range []string{"x", "'x'", "(x)", "()"} {
			wrong(t, "e="+item+two+";", api.ErrWant, 2+len(item)+len(two)-1)
		}
	}
}

// P5.1: brackets hold whatever alternatives there are, with weights, and brackets.
func TestGroups(t *testing.T) {
	right(t, "e = a (%1 'b'? | (c)+ ) d | ( ( | %2 ) e ) ;", def(0, "e",
		alt(4, name(4, "a", 0),
			group(6, 0,
				weighed(7, 1, term(10, "b", '?')),
				alt(17, group(17, '+', alt(18, name(18, "c", 0))))),
			name(24, "d", 0)),
		alt(28, group(28, 0, alt(30,
			group(30, 0, alt(32), weighed(34, 2)),
			name(39, "e", 0))))))
	right(t, "e=(())?()*;", def(0, "e", alt(2,
		group(2, '?', alt(3, group(3, 0, alt(4)))),
		group(7, '*', alt(8)))))
}

// P5.1: definitions in their order, whatever their names; which ones they are isn't looked at.
func TestDefinitions(t *testing.T) {
	right(t, "a=;b=;a=b;", def(0, "a", alt(2)), def(3, "b", alt(5)), def(6, "a", alt(8, name(8, "b", 0))))
	right(t, "Z_9 = z ; # r\n\n z = 'q';#", def(0, "Z_9", alt(6, name(6, "z", 0))), def(16, "z", alt(20, term(20, "q", 0))))
	long := strings.Repeat("n", 24)
	full := strings.Repeat("q", 16)
	right(t, long+"='"+full+"';", def(0, long, alt(25, term(25, full, 0))))
	got, fault := read.Parse(strings.Repeat("e=;", 300) + "f=" + strings.Repeat("'a'", 300) + strings.Repeat("|", 300) + ";")
	if fault.E != api.OK || len(got) != 301 || len(got[300].Alts) != 301 || len(got[300].Alts[0].Items) != 300 {
		t.Error("there are limits that this layer hasn't")
	}
}

// nested is an item within so many brackets.
func nested(deep int, inner string) string {
	return strings.Repeat("(", deep) + inner + strings.Repeat(")", deep)
}

// P5.1: a bracket within 16 others is too deep, and no other one is.
func TestDeep(t *testing.T) {
	for deep := range 16 {
		want := term(3+deep, "a", 0)
		for i := deep; i >= 0; i-- {
			want = group(2+i, 0, alt(3+i, want))
		}
		right(t, "e="+nested(deep+1, "'a'")+";", def(0, "e", alt(2, want)))
	}
	wrong(t, "e="+nested(17, "'a'")+";", api.ErrDeep, 18)
	wrong(t, "e = "+strings.Repeat("( ", 17), api.ErrDeep, 36)
	wrong(t, "e="+strings.Repeat("(", 65000), api.ErrDeep, 18)
	wrong(t, "e=%1"+strings.Repeat("(%2 'b'* | x", 16)+" ()", api.ErrDeep, 4+16*12+1)
	wrong(t, "e="+strings.Repeat("(", 16)+";", api.ErrWant, 18)
	wrong(t, "e="+strings.Repeat("(", 16), api.ErrWant, 18)
	// Brackets that are closed again don't count, in whichever definition or alternative they are.
	side := nested(16, "") + "|" + nested(16, "x") + "+" + nested(16, "|")
	if _, fault := read.Parse("e=" + side + ";f=(" + nested(15, "") + nested(15, "") + "|" + nested(15, "") + ");e=" + side + ";"); fault.E != api.OK {
		t.Errorf("%v", fault)
	}
	wrong(t, "e="+nested(16, "")+";f="+strings.Repeat("(", 16)+")"+"((", api.ErrDeep, 2+32+3+16+2)
	wrong(t, "e="+nested(16, "()"), api.ErrDeep, 18)
	// What is wrong ahead of a bracket that is too deep is told.
	wrong(t, "e=)"+nested(17, ""), api.ErrWant, 2)
	wrong(t, nested(17, ""), api.ErrWant, 0)
	wrong(t, "e="+nested(17, "")+"=", api.ErrDeep, 18)
}

// P5.1: the first word that can't come, in each place where one can't; the end is one, too.
func TestWant(t *testing.T) {
	for s, at := range map[string]int{
		// No definition begins so.
		"": 0, " \n": 2, "# e = ;": 7, "=": 0, ";": 0, "'e' = ;": 0, "%1 e = ;": 0, "( e = ; )": 0, "?": 0, "e=;;": 3, "e=; 'a'": 4, "e=;=": 3, "e=;%1": 3, "e=;)": 3, "e=;|": 3,
		// No name's end.
		"e": 1, "e ": 2, "e ;": 2, "e e": 2, "e f = ;": 2, "e 'a'": 2, "e | = ;": 2, "e %1": 2, "e? = ;": 1, "e ( )": 2, "e=;f": 4,
		// No alternative's begin.
		"e = = ;": 4, "e = ? ;": 4, "e = * 'a';": 4, "e = + ;": 4, "e = | ? ;": 6, "e = ) ;": 4, "e=": 2, "e = ": 4, "e = |": 5,
		// Weights stand ahead of alternatives alone, once each, with no sign.
		"e = 'a' %1 ;": 8, "e = %1 %2 ;": 7, "e = %1? ;": 6, "e = a? %1 ;": 7, "e = ( ) %1 ;": 8, "e = ( a %1 ) ;": 8, "e = %1": 6, "e = %1 )": 7, "e = %1 =": 7, "e = %1 *": 7,
		// No item's end.
		"e = 'a' = ;": 8, "e = a": 5, "e = a )": 6, "e = a b = c ;": 8, "e = 'a'": 7, "e = a?": 6, "e = a? ? ;": 7, "e = a? )": 7, "e = a? = ;": 7,
		// Brackets.
		"e = ( ;": 6, "e = (": 5, "e = ( = ) ;": 6, "e = ( a": 7, "e = ( a ; ) ;": 8, "e = ( ) ) ;": 8, "e = ( ( ) ;": 10, "e = ( ? ) ;": 6, "e = ( a | ;": 10, "e = ( | * ) ;": 8, "e = ( a b = ; )": 10, "e = ()": 6, "e = ()+": 7, "e = () =": 7,
		// What is wrong first is told.
		"e = ; = ) ;": 6, "e = ; f = ( ; g = ) ;": 12, "e = ? ( ;": 4,
	} {
		wrong(t, s, api.ErrWant, at)
	}
}

// P5.1: where a text isn't words, that is told as layer 4 tells it, whatever else is wrong, ahead of it too.
func TestWrongWords(t *testing.T) {
	for s, want := range map[string]api.Fault{
		"e = 'a":                                {E: api.ErrQuote, At: 4},
		"e = '' ;":                              {E: api.ErrQuote, At: 4},
		"e = $ ;":                               {E: api.ErrChar, At: 4},
		"e = 9 ;":                               {E: api.ErrChar, At: 4},
		"\x00":                                  {E: api.ErrChar, At: 0},
		"\xff e = ;":                            {E: api.ErrChar, At: 0},
		"e = é ;":                               {E: api.ErrChar, At: 4},
		"e = %x ;":                              {E: api.ErrWeight, At: 4},
		"e = ; % ":                              {E: api.ErrWeight, At: 6},
		"e = " + strings.Repeat("n", 25) + " ;": {E: api.ErrLong, At: 4},
		"e = '" + strings.Repeat("q", 17) + "' ;": {E: api.ErrLong, At: 4},
		"= ; '":                              {E: api.ErrQuote, At: 4},
		"e = ( ; $":                          {E: api.ErrChar, At: 8},
		"e e e %":                            {E: api.ErrWeight, At: 6},
		"e=" + nested(17, "_"):               {E: api.ErrChar, At: 19},
		strings.Repeat(" ", 65537):           {E: api.ErrLong, At: 0},
		"e = ;" + strings.Repeat(" ", 65532): {E: api.ErrLong, At: 0},
		") '" + strings.Repeat("x", 70000):   {E: api.ErrLong, At: 0},
	} {
		wrong(t, s, want.E, want.At)
	}
}

// P5.1: texts as long as they may be.
func TestLongTexts(t *testing.T) {
	right(t, strings.Repeat(" ", 65533)+"e=;", def(65533, "e", alt(65535)))
	right(t, "e=;#"+strings.Repeat("'", 65532), def(0, "e", alt(2)))
	wrong(t, strings.Repeat(" ", 65536), api.ErrWant, 65536)
	wrong(t, "e="+strings.Repeat("|", 65534), api.ErrWant, 65536)
	for _, piece := range []string{"a ", "'b'", "()", "(a|b)", "a? "} {
		n := 65533 / len(piece)
		got, fault := read.Parse("e=" + strings.Repeat(piece, n) + ";")
		if fault.E != api.OK || len(got) != 1 || len(got[0].Alts) != 1 || len(got[0].Alts[0].Items) != n {
			t.Errorf("%q: %v", piece, fault)
		}
	}
	got, fault := read.Parse("e=" + strings.Repeat("|", 65533) + ";")
	if fault.E != api.OK || len(got) != 1 || len(got[0].Alts) != 65534 || got[0].Alts[65533].At != 65535 {
		t.Errorf("%v", fault)
	}
	got, fault = read.Parse(strings.Repeat("e=;", 21845) + "#")
	if fault.E != api.OK || len(got) != 21845 || got[21844].At != 21844*3 {
		t.Errorf("%v", fault)
	}
}

// turn turns all that stands in alternatives, and behind their lists' ends.
func turn(alts []read.Alt) {
	for i := range alts {
		for j := range alts[i].Items {
			turn(alts[i].Items[j].Alts)
		}
		for j := range alts[i].Items {
			alts[i].Items[j] = term(9, "turned", '?')
		}
		_ = append(alts[i].Items, term(9, "turned", '?'))
		alts[i].Weight = 9
	}
	_ = append(alts, weighed(9, 9))
}

// Rules 4 and 6: what is told is new memory each time, of which no two lists share any, and is the same each time.
func TestNewMemory(t *testing.T) {
	const s = "e = %2 'a' (e | (b)+ )* | c ; f = d | ( ) ;"
	first, _ := read.Parse(s)
	kept, _ := read.Parse(s)
	other, _ := read.Parse(s)
	turn(other[0].Alts[0].Items[1].Alts)
	want := group(11, '*')
	want.Alts = other[0].Alts[0].Items[1].Alts
	if !sameItem(other[0].Alts[0].Items[1], want) || !sameAlt(other[0].Alts[1], kept[0].Alts[1]) || !sameDef(other[1], kept[1]) {
		t.Error("two lists of one answer share what they hold")
	}
	turn(other[0].Alts)
	if !sameDef(other[1], kept[1]) {
		t.Error("two definitions of one answer share what they hold")
	}
	turn(other[1].Alts)
	if !slices.EqualFunc(first, kept, sameDef) {
		t.Error("what was told was turned")
	}
	if again, _ := read.Parse(s); !slices.EqualFunc(again, kept, sameDef) {
		t.Error("what is told was turned")
	}
}
