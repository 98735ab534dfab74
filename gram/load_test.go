package gram_test

import (
	"fmt"
	"math"
	"strings"
	"testing"

	"accidence/api"
	"accidence/gram"
)

// loads tells a fault if a text's grammar isn't this one.
func loads(t *testing.T, s string, want api.Grammar) {
	t.Helper()
	got, f := gram.Load(s)
	if f != (api.Fault{}) || !gram.Same(got, want) {
		t.Errorf("%.80q: %v, %v, want %v", s, got, f, want)
	}
	if !gram.Right(got) {
		t.Errorf("%.80q: %v isn't right", s, got)
	}
}

// is tells a fault if a text's grammar isn't printed as these definitions.
func is(t *testing.T, s string, want ...string) {
	t.Helper()
	got, f := gram.Load(s)
	text := strings.Join(want, "\n") + "\n"
	if f != (api.Fault{}) || gram.Print(got) != text {
		t.Errorf("%.80q: %v\n%s\nwant\n%s", s, f, gram.Print(got), text)
	}
}

// faulty tells a fault if a text hasn't this fault, and nothing else.
func faulty(t *testing.T, s string, e api.Errno, at int) {
	t.Helper()
	got, f := gram.Load(s)
	if f != (api.Fault{E: e, At: at}) || !gram.Same(got, api.Grammar{}) {
		t.Errorf("%.80q: %v, %v, want %d at %d", s, got, f, e, at)
	}
}

// defs is so many definitions of the names of names, each with what stands behind the =, all of one length.
func defs(n int, alts string) string {
	var b strings.Builder
	for _, name := range names(n) {
		b.WriteString(name + "=" + alts + ";")
	}
	return b.String()
}

// P6.1: the chapter's examples.
func TestLoadExamples(t *testing.T) {
	loads(t, "e = e? 'b' | %1.5 'a' ;", grammar("a b", "e g1", rule(0, 1, ^1), weighed(1.5, 0, ^0), rule(1, 0), rule(1)))
	is(t, "e = e? 'b' | %1.5 'a' ;", "e = g1 'b' | %1.5 'a' ;", "g1 = e | ;")
	faulty(t, "e = f ;", api.ErrNone, 4)
}

// P6.1: grammars without new variables.
func TestLoadPlain(t *testing.T) {
	loads(t, "s=;", grammar("", "s", rule(0)))
	loads(t, "s = 'a' s 'b' | %2 ;", grammar("a b", "s", rule(0, ^0, 0, ^1), weighed(2, 0)))
	loads(t, "s = t s t | ; t = 'x' | s ;", grammar("x", "s t", rule(0, 1, 0, 1), rule(0), rule(1, ^0), rule(1, 0)))
	loads(t, "z = ; a = z ; b = a a ; # z\n c = c | ;", grammar("", "z a b c", rule(0), rule(1, 0), rule(2, 1, 1), rule(3, 3), rule(3)))
	loads(t, "S=s;s=S;", grammar("", "S s", rule(0, 1), rule(1, 0)))
}

// P6.1: the terminals are in order byte by byte, each once, wherever they come.
func TestLoadTerminals(t *testing.T) {
	g := grammar("# 10 9 B a ab b ~", "s t", rule(0, ^7, ^6, ^5, ^4), rule(0, ^3, ^2, ^1, ^0), rule(1, ^4, 0, ^4), rule(1, ^7))
	loads(t, "s = '~' 'b' 'ab' 'a' | 'B' '9' '10' '#' ; t = 'a' s 'a' | '~' ;", g)
	loads(t, "s = 'a' 'a' | 'a' 's' 's' ; s2 = 'a' ;", grammar("a s", "s s2", rule(0, ^0, ^0), rule(0, ^0, ^1, ^1), rule(1, ^0)))
	want := api.Grammar{Terms: []string{" ", " a", "a", "a "}, Vars: []string{"s"}, Rules: []api.Rule{rule(0, ^3, ^2, ^1, ^0)}}
	loads(t, "s = 'a ' 'a' ' a' ' ' ;", want)
	// Those of new variables come last, and are put in order with the others.
	is(t, "s = 'c' ('b')? 'd' ; t = 'a' ;", "s = 'c' g1 'd' ;", "t = 'a' ;", "g1 = g2 | ;", "g2 = 'b' ;")
	loads(t, "s = ('b') 'c' ; t = 'a' ;", grammar("a b c", "s t g1", rule(0, 2, ^2), rule(1, ^0), rule(2, ^1)))
}

// P6.1: weights of all kinds, of alternatives in brackets too, which stand as they stand; of new variables' other alternatives there are none.
func TestLoadWeights(t *testing.T) {
	nan := math.NaN()
	loads(t, "s = %2 | %-0 'a' | %nan 'b' | %inf 'c' | %-inf 'd' | %1.50 'e' | %0 'f' ;", grammar("a b c d e f", "s",
		weighed(2, 0), weighed(below, 0, ^0), weighed(nan, 0, ^1), weighed(math.Inf(1), 0, ^2), weighed(math.Inf(-1), 0, ^3), weighed(1.5, 0, ^4), rule(0, ^5)))
	loads(t, "s = %2 'a'? ;", grammar("a", "s g1", weighed(2, 0, 1), rule(1, ^0), rule(1)))
	loads(t, "s = %2 ( %3 'a' | %-0 ) ;", grammar("a", "s g1", weighed(2, 0, 1), weighed(3, 1, ^0), weighed(below, 1)))
	is(t, "s = %2 ( %3 'a' | %nan )+ ;", "s = %2 g1 ;", "g1 = g2 g3 ;", "g2 = %3 'a' | %nan ;", "g3 = g4 g3 | ;", "g4 = %3 'a' | %nan ;")
}

// P6.1: what each sign, and brackets, are.
func TestLoadSigns(t *testing.T) {
	for item, sym := range map[string]string{"x": "x", "'x'": "'x'"} {
		is(t, "x = "+item+"? ;", "x = g1 ;", "g1 = "+sym+" | ;")
		is(t, "x = "+item+"* ;", "x = g1 ;", "g1 = "+sym+" g1 | ;")
		is(t, "x = "+item+"+ ;", "x = g1 ;", "g1 = "+sym+" g2 ;", "g2 = "+sym+" g2 | ;")
		is(t, "x = ("+item+") ;", "x = g1 ;", "g1 = "+sym+" ;")
	}
	is(t, "x = ('a' x | | 'b') ;", "x = g1 ;", "g1 = 'a' x | | 'b' ;")
	is(t, "x = ('a' x | )? ;", "x = g1 ;", "g1 = g2 | ;", "g2 = 'a' x | ;")
	is(t, "x = ('a' x | )* ;", "x = g1 ;", "g1 = g2 g1 | ;", "g2 = 'a' x | ;")
	is(t, "x = ('a' x | )+ ;", "x = g1 ;", "g1 = g2 g3 ;", "g2 = 'a' x | ;", "g3 = g4 g3 | ;", "g4 = 'a' x | ;")
	is(t, "x = () ;", "x = g1 ;", "g1 = ;")
	is(t, "x = ()+ | ()* ;", "x = g1 | g2 ;", "g1 = g3 g4 ;", "g2 = g5 g2 | ;", "g3 = ;", "g4 = g6 g4 | ;", "g5 = ;", "g6 = ;")
	is(t, "x = ((('a'))) ;", "x = g1 ;", "g1 = g2 ;", "g2 = g3 ;", "g3 = 'a' ;")
	is(t, "x = (('a'?)*)+ ;", "x = g1 ;", "g1 = g2 g3 ;", "g2 = g4 ;", "g3 = g5 g3 | ;", "g4 = g6 g4 | ;", "g5 = g7 ;", "g6 = g8 ;", "g7 = g9 g7 | ;", "g8 = 'a' | ;", "g9 = g10 ;", "g10 = 'a' | ;")
}

// P6.1: new variables come behind all that there are, as the variables are gone through; each place has one of its own.
func TestLoadOrder(t *testing.T) {
	is(t, "s = 'a'? t 'a'? | (s? 'b')* ; t = 'c'+ ; u = ( ) ;",
		"s = g1 t g2 | g3 ;", "t = g4 ;", "u = g5 ;",
		"g1 = 'a' | ;", "g2 = 'a' | ;", "g3 = g6 g3 | ;", "g4 = 'c' g7 ;", "g5 = ;", "g6 = g8 'b' ;", "g7 = 'c' g7 | ;", "g8 = s | ;")
	is(t, "s = 'a'* | 'a'* ;", "s = g1 | g2 ;", "g1 = 'a' g1 | ;", "g2 = 'a' g2 | ;")
}

// P6.1: new variables' names pass over those that there are, and no others.
func TestLoadNames(t *testing.T) {
	is(t, "g1 = 'a'? ;", "g1 = g2 ;", "g2 = 'a' | ;")
	is(t, "g2 = 'a'? 'b'? g4 'c'? ; g4 = 'd'? ;", "g2 = g1 g3 g4 g5 ;", "g4 = g6 ;", "g1 = 'a' | ;", "g3 = 'b' | ;", "g5 = 'c' | ;", "g6 = 'd' | ;")
	is(t, "s = 'a'? ; g1 = 'b'? ; g3 = 'c'? ;", "s = g2 ;", "g1 = g4 ;", "g3 = g5 ;", "g2 = 'a' | ;", "g4 = 'b' | ;", "g5 = 'c' | ;")
	is(t, "g01 = 'a'? ; G1 = ; g = ; g10 = ; g_1 = ; g1a = ;", "g01 = g1 ;", "G1 = ;", "g = ;", "g10 = ;", "g_1 = ;", "g1a = ;", "g1 = 'a' | ;")
	var b strings.Builder
	for i := range 12 {
		fmt.Fprintf(&b, "g%d = ; ", i+1)
	}
	b.WriteString("s = 'a'? 'b'? ;")
	g, f := gram.Load(b.String())
	if f.E != api.OK || g.Vars[13] != "g13" || g.Vars[14] != "g14" || len(g.Vars) != 15 {
		t.Errorf("%v, %v", g, f)
	}
	// A name that only a new variable has isn't defined.
	faulty(t, "s = 'a'? g1 ;", api.ErrNone, 9)
	faulty(t, "s = ( 'a' | g1 ) ;", api.ErrNone, 12)
}

// P6.1: a name that was defined ahead.
func TestLoadTwice(t *testing.T) {
	faulty(t, "s = ; s = ;", api.ErrTwice, 6)
	faulty(t, "s = ; t = ; u = ;\n t = ; s = ;", api.ErrTwice, 19)
	faulty(t, "s=;s=;s=;", api.ErrTwice, 3)
	loads(t, "s=;S=;s1=;", grammar("", "s S s1", rule(0), rule(1), rule(2)))
	// It is told ahead of all but what layer 5 tells.
	faulty(t, "s = x x x | | ; s = ;", api.ErrTwice, 16)
	faulty(t, "s = "+strings.Repeat("'a'", 25)+" ; s = ;", api.ErrTwice, 82)
	faulty(t, "s = ; s = ( ;", api.ErrWant, 12)
	faulty(t, "s = ; s = ; $", api.ErrChar, 12)
}

// P6.1: a variable too many: one that is defined, or a new one.
func TestLoadManyVariables(t *testing.T) {
	g, f := gram.Load(defs(64, ""))
	if f.E != api.OK || len(g.Vars) != 64 || !gram.Right(g) {
		t.Errorf("64 variables: %v", f)
	}
	faulty(t, defs(65, ""), api.ErrMany, 64*5)
	faulty(t, defs(70, "x"), api.ErrMany, 64*6)
	// Definition by definition, of one its name first.
	faulty(t, defs(64, "")+"vaa=;x=;", api.ErrTwice, 64*5)
	faulty(t, defs(64, "")+"x=;x=;", api.ErrMany, 64*5)
	faulty(t, defs(3, "")+"vaa=;"+strings.TrimPrefix(defs(70, ""), "vaa=;vab=;vac=;"), api.ErrTwice, 15)
	// New ones.
	faulty(t, defs(63, "")+"x='a'?;", api.ErrMany, 63*5+2)
	g, f = gram.Load(defs(62, "") + "x='a'?;")
	if f.E != api.OK || len(g.Vars) != 64 || g.Vars[63] != "g1" || !gram.Right(g) {
		t.Errorf("63 variables and a new one: %v", f)
	}
	faulty(t, defs(62, "")+"x='a'?'b'*;", api.ErrMany, 62*5+6)
	faulty(t, defs(62, "")+"x='a'? ('b');", api.ErrMany, 62*5+7)
	faulty(t, defs(62, "")+"x=('b')?;", api.ErrMany, 62*5+2)
	faulty(t, defs(62, "")+"x=y;y=(\n'a'('b'));", api.ErrMany, 62*5+6)
	// What is in brackets is where it is; what a sign makes is where its item is.
	faulty(t, defs(62, "")+"x=( 'a'?);", api.ErrMany, 62*5+4)
	faulty(t, defs(62, "")+"x= 'a'+;", api.ErrMany, 62*5+3)
	faulty(t, defs(61, "")+"x= ('a')+;", api.ErrMany, 61*5+3)
	g, f = gram.Load(defs(59, "") + "x= ('a')+;")
	if f.E != api.OK || len(g.Vars) != 64 || !gram.Right(g) {
		t.Errorf("60 variables and four new ones: %v", f)
	}
	faulty(t, defs(60, "")+"x= ('a' )+;", api.ErrMany, 60*5+3)
	faulty(t, "s="+strings.Repeat("'a'?", 24)+"|'b'"+strings.Repeat("'a'*", 23)+"|'c'"+strings.Repeat("'a'*", 20)+";", api.ErrMany, 2+24*4+1+3+23*4+1+3+(63-24-23)*4)
}

// P6.1: a name that isn't defined, the first one in the text's order, in brackets too.
func TestLoadNone(t *testing.T) {
	faulty(t, "s = s x y ;", api.ErrNone, 6)
	faulty(t, "s = t ; t = ( s ( y | x )* )? z ;", api.ErrNone, 18)
	faulty(t, "s = ( 'a' ( s | x ) ) y ;", api.ErrNone, 16)
	faulty(t, "s = x? ;", api.ErrNone, 4)
	faulty(t, "s = s* s+ x+ ;", api.ErrNone, 10)
	faulty(t, "s = S ;", api.ErrNone, 4)
	loads(t, "s = t ; t = ;", grammar("", "s t", rule(0, 1), rule(1)))
	// It is told ahead of what comes of rules, wherever it stands.
	faulty(t, "s = | ; t = x ;", api.ErrNone, 12)
	faulty(t, "s = "+strings.Repeat("s ", 25)+"; t = x ;", api.ErrNone, 4+50+6)
	faulty(t, "s ="+strings.Repeat("|", 300)+" x ;", api.ErrNone, 304)
	faulty(t, "s = "+strings.Repeat("( ", 16)+"x"+strings.Repeat(" )", 16)+" ;", api.ErrNone, 36)
	// And behind what comes of definitions.
	faulty(t, "s = x ; s = ;", api.ErrTwice, 8)
	faulty(t, defs(65, "x"), api.ErrMany, 64*6)
}

// P6.1: a rule too many, told where its alternative is.
func TestLoadManyRules(t *testing.T) {
	// Alternatives are numbers of five digits to the base of 4, so that none is there twice.
	var alts []string
	for i := range 300 {
		alt := ""
		for n := i; len(alt) < 5*3; n /= 4 {
			alt += "'" + string([]byte{byte('a' + n%4)}) + "'"
		}
		alts = append(alts, alt)
	}
	text := func(n int) string { return "s=" + strings.Join(alts[:n], "|") + ";" }
	g, f := gram.Load(text(256))
	if f.E != api.OK || len(g.Rules) != 256 || !gram.Right(g) {
		t.Errorf("256 rules: %v", f)
	}
	at := 2 + 256*16
	faulty(t, text(257), api.ErrMany, at)
	faulty(t, text(300), api.ErrMany, at)
	faulty(t, "s="+strings.Join(alts[:256], "|")+"| \n %2 'a' ;", api.ErrMany, at+3)
	// It is told ahead of what else is wrong there.
	faulty(t, "s="+strings.Join(alts[:256], "|")+"|"+alts[0]+";", api.ErrMany, at)
	faulty(t, "s="+strings.Join(alts[:255], "|")+"|"+alts[0]+";", api.ErrSame, at-16)
	// Those of all variables count, and new ones'; of these they are where the item is, but in brackets.
	faulty(t, text(256)+"t=;", api.ErrMany, at+2)
	faulty(t, text(255)+"t=s?;", api.ErrMany, at-16+2)
	faulty(t, text(254)+"t=s?;", api.ErrMany, at-32+2)
	g, f = gram.Load(text(253) + "t=s?;")
	if f.E != api.OK || len(g.Rules) != 256 || !gram.Right(g) {
		t.Errorf("256 rules, with a new variable's: %v", f)
	}
	faulty(t, text(254)+"t=(s|);", api.ErrMany, at-32+5)
	faulty(t, text(255)+"t=( %1 s|);", api.ErrMany, at-16+4)
	faulty(t, "s="+strings.Repeat("|", 299)+";", api.ErrSame, 3)
}

// P6.1: items too many, told where their alternative is.
func TestLoadManyItems(t *testing.T) {
	g, f := gram.Load("s=" + strings.Repeat("s ", 24) + ";")
	if f.E != api.OK || len(g.Rules[0].Right) != 24 || !gram.Right(g) {
		t.Errorf("24 items: %v", f)
	}
	faulty(t, "s= "+strings.Repeat("s ", 25)+";", api.ErrMany, 3)
	faulty(t, "s='a'| %2 "+strings.Repeat("s ", 25)+";", api.ErrMany, 7)
	faulty(t, "s='a'|( "+strings.Repeat("s ", 25)+"|);", api.ErrMany, 8)
	faulty(t, "s='a'|(|"+strings.Repeat("s ", 25)+")*;", api.ErrMany, 8)
	is(t, "s=("+strings.Repeat("s ", 24)+")+;", "s = g1 ;", "g1 = g2 g3 ;", "g2 ="+strings.Repeat(" s", 24)+" ;", "g3 = g4 g3 | ;", "g4 ="+strings.Repeat(" s", 24)+" ;")
	// They are told ahead of what is wrong with one of them.
	faulty(t, defs(62, "")+"x="+strings.Repeat("x?", 25)+";", api.ErrMany, 62*5+2)
	faulty(t, "s="+strings.Repeat("s ", 65000/2)+";", api.ErrMany, 2)
}

// P6.1: a terminal too many, told where its item is.
func TestLoadManyTerminals(t *testing.T) {
	text := func(n int) string {
		var b strings.Builder
		for i, name := range names(n) {
			if i%20 == 0 {
				b.WriteByte('|')
			}
			b.WriteString("'" + name + "'")
		}
		return "s=" + b.String()
	}
	g, f := gram.Load(text(64) + "'vaa''vbc'|'vcl';")
	if f.E != api.OK || len(g.Terms) != 64 || !gram.Right(g) {
		t.Errorf("64 terminals: %v", f)
	}
	at := len(text(64))
	faulty(t, text(64)+" 'x';", api.ErrMany, at+1)
	faulty(t, text(64)+"|'vaa''x' 'y';", api.ErrMany, at+6)
	faulty(t, text(64)+"|s| %2 ( 'vaa' | 'x' )? ;", api.ErrMany, at+17)
	faulty(t, text(64)+";t= 'x'? ;", api.ErrMany, at+4)
	faulty(t, text(64)+";t= 'vaa'+ 'x'* ;", api.ErrMany, at+11)
	// An item that stands ahead of it in its variable is told first, and a new variable's last.
	faulty(t, text(64)+"'x'|;t=||;", api.ErrMany, at)
	faulty(t, text(64)+"'x'?;t=||;", api.ErrSame, at+8)
}

// P6.1: two alternatives of one variable with the same symbols.
func TestLoadSame(t *testing.T) {
	faulty(t, "s = | ;", api.ErrSame, 6)
	faulty(t, "s = 'a' s | s 'a' | 'a' s ;", api.ErrSame, 20)
	faulty(t, "s = %1 'a' | %2 'a' ;", api.ErrSame, 13)
	faulty(t, "s = 'a' | 'b' | %2 | 'b' | 'a' | ;", api.ErrSame, 21)
	faulty(t, "s = ; t = | 's' | s | t | \n| s ;", api.ErrSame, 27)
	faulty(t, "s = ; t = | 's' | s | t |\n| s ;", api.ErrSame, 26)
	loads(t, "s = 't' | t ; t = 't' | t ;", grammar("t", "s t", rule(0, ^0), rule(0, 1), rule(1, ^0), rule(1, 1)))
	// In brackets, too; of these each item has a variable of its own.
	faulty(t, "s = ( 'a' | 'b' | 'a' )* ;", api.ErrSame, 18)
	faulty(t, "s = ( | ) ;", api.ErrSame, 8)
	faulty(t, "s = ('a'|'b'|'b')+ ;", api.ErrSame, 13)
	is(t, "s = 'a'? | 'a'? | ('a') | ('a') ;", "s = g1 | g2 | g3 | g4 ;", "g1 = 'a' | ;", "g2 = 'a' | ;", "g3 = 'a' ;", "g4 = 'a' ;")
	// Variables are gone through in order, the new ones last.
	faulty(t, "s = ( | ) ; t = | ;", api.ErrSame, 18)
	faulty(t, "s = ( ( | ) ) ; t = ( | ) ;", api.ErrSame, 24)
	faulty(t, "s = ( | ) | ;", api.ErrSame, 8)
	faulty(t, "s = ( | ) | | ;", api.ErrSame, 14)
	faulty(t, "s = | | "+strings.Repeat("s ", 25)+";", api.ErrSame, 6)
	faulty(t, "s = | "+strings.Repeat("s ", 25)+"| ;", api.ErrMany, 6)
}

// P6.1: layer 5's faults, and layer 4's, are told as they are.
func TestLoadFaultsBelow(t *testing.T) {
	for s, want := range map[string]api.Fault{
		"":            {E: api.ErrWant, At: 0},
		"s":           {E: api.ErrWant, At: 1},
		"s = x ; x":   {E: api.ErrWant, At: 9},
		"s = ( ;":     {E: api.ErrWant, At: 6},
		"s = | | ) ;": {E: api.ErrWant, At: 8},
		"s = $ ;":     {E: api.ErrChar, At: 4},
		"s = 'a":      {E: api.ErrQuote, At: 4},
		"s = x %1e ;": {E: api.ErrWeight, At: 6},
		"s=;s=;%":     {E: api.ErrWeight, At: 6},
		"\x00\xff":    {E: api.ErrChar, At: 0},
		"s = '" + strings.Repeat("a", 17) + "' ;":                           {E: api.ErrLong, At: 4},
		"s = " + strings.Repeat("s", 25) + " ;":                             {E: api.ErrLong, At: 4},
		"s = x " + strings.Repeat("(", 17) + strings.Repeat(")", 17) + " ;": {E: api.ErrDeep, At: 22},
		strings.Repeat(" ", 65537):                                          {E: api.ErrLong, At: 0},
		"s = x ;" + strings.Repeat(" ", 65537):                              {E: api.ErrLong, At: 0},
	} {
		faulty(t, s, want.E, want.At)
	}
	is(t, "s = "+strings.Repeat("(", 16)+"'a'"+strings.Repeat(")", 16)+";"+strings.Repeat(" ", 65496),
		"s = g1 ;", "g1 = g2 ;", "g2 = g3 ;", "g3 = g4 ;", "g4 = g5 ;", "g5 = g6 ;", "g6 = g7 ;", "g7 = g8 ;", "g8 = g9 ;", "g9 = g10 ;", "g10 = g11 ;", "g11 = g12 ;", "g12 = g13 ;", "g13 = g14 ;", "g14 = g15 ;", "g15 = g16 ;", "g16 = 'a' ;")
}

// Rules 4 and 6: what is told is new memory each time, of which no two lists share any, and is the same each time.
func TestLoadNewMemory(t *testing.T) {
	const s = "s = %2 'a' s ('b' s)* | 'c'+ ; t = s 'a' 'b' | 'a' ;"
	first, _ := gram.Load(s)
	kept := copied(first)
	other, _ := gram.Load(s)
	for i := range other.Rules {
		for j := range other.Rules[i].Right {
			other.Rules[i].Right[j] = 77
		}
		_ = append(other.Rules[i].Right, 78)
		for _, r := range other.Rules[i+1:] {
			for _, x := range r.Right {
				if x >= 77 {
					t.Fatal("two rules of one answer share what they hold")
				}
			}
		}
	}
	other.Terms[0], other.Vars[0], other.Rules[0].Left = "turned", "turned", 9
	if !gram.Same(first, kept) {
		t.Error("what was told was turned")
	}
	if again, _ := gram.Load(s); !gram.Same(again, kept) {
		t.Error("what is told was turned")
	}
}
