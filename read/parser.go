package read

import (
	"accidence/api"
	"accidence/lex"
)

// parser is the words that are to be gone through yet, with the end, which is never passed, and how many brackets are open.
type parser struct {
	words []lex.Token
	deep  int
}

// text is all definitions, up to the end.
func (p *parser) text() []Def {
	list := []Def{p.def()}
	for p.words[0].Kind != lex.End {
		list = append(list, p.def())
	}
	return list
}

// def is a definition.
func (p *parser) def() Def {
	if p.words[0].Kind != lex.Name {
		p.fail(api.ErrWant)
	}
	name := p.take()
	p.want('=')
	alts := p.alts()
	p.want(';')
	return Def{At: name.At, Name: name.Text, Alts: alts}
}

// alts is one alternative, and those behind it.
func (p *parser) alts() []Alt {
	list := []Alt{p.alt()}
	for p.sign() == '|' {
		p.take()
		list = append(list, p.alt())
	}
	return list
}

// alt is an alternative; what can't stand in it ends it, and is looked at by who asked for it.
func (p *parser) alt() Alt {
	alt := Alt{At: p.words[0].At}
	if p.words[0].Kind == lex.Weight {
		alt.Weight = p.take().Weight
	}
	for p.atItem() {
		alt.Items = append(alt.Items, p.item())
	}
	return alt
}

// atItem tells whether an item begins here.
func (p *parser) atItem() bool {
	kind := p.words[0].Kind
	return kind == lex.Name || kind == lex.Quote || p.sign() == '('
}

// item is an item, which begins here.
func (p *parser) item() Item {
	word := p.words[0]
	item := Item{At: word.At}
	switch word.Kind {
	case lex.Name:
		item.Kind, item.Text = Var, p.take().Text
	case lex.Quote:
		item.Kind, item.Text = Term, p.take().Text
	default:
		item.Kind, item.Alts = Group, p.group()
	}
	switch sign := p.sign(); sign {
	case '?', '*', '+':
		p.take()
		item.Op = sign
	}
	return item
}

// group is what stands in the brackets that begin here.
func (p *parser) group() []Alt {
	if p.deep == api.MaxDeep {
		p.fail(api.ErrDeep)
	}
	p.want('(')
	p.deep++
	alts := p.alts()
	p.deep--
	p.want(')')
	return alts
}

// sign is the next word's byte, or 0 if it is no sign.
func (p *parser) sign() byte {
	if p.words[0].Kind != lex.Sign {
		return 0
	}
	return p.words[0].Text[0]
}

// want passes a sign; there must be one.
func (p *parser) want(sign byte) {
	if p.sign() != sign {
		p.fail(api.ErrWant)
	}
	p.take()
}

// take passes the next word.
func (p *parser) take() lex.Token {
	word := p.words[0]
	p.words = p.words[1:]
	return word
}

// fail tells what is wrong with the next word.
func (p *parser) fail(e api.Errno) { panic(wrong{E: e, At: p.words[0].At}) }
