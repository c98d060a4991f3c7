package ask

import (
	"shipwright/api"
	"shipwright/words"
)

// parser reads a query word by word.
type parser struct {
	words.Reader
}

// query takes a query.
func (p *parser) query() api.Query {
	if p.Name() == "let" {
		return p.let()
	}
	return p.sum()
}

// let takes a let, and what it is for.
func (p *parser) let() api.Query {
	q := api.Query{Kind: api.QLet, At: p.At()}
	p.TakeName("let")
	q.Name = p.name()
	p.TakeMark("=")
	value := p.query()
	p.TakeName("in")
	q.Kids = []api.Query{value, p.query()}
	return q
}

// sum takes an item, and further ones as long as there are operators.
func (p *parser) sum() api.Query {
	q := p.item()
	for kind := p.operator(); kind != 0; kind = p.operator() {
		at := p.At()
		p.Take(true)
		q = api.Query{Kind: kind, At: at, Kids: []api.Query{q, p.item()}}
	}
	return q
}

// operator returns the kind of query that the next word makes as an operator, or 0.
func (p *parser) operator() int {
	switch {
	case p.Mark() == operators[api.QUnion]:
		return api.QUnion
	case p.Mark() == operators[api.QMeet]:
		return api.QMeet
	case p.Name() == operators[api.QLess]:
		return api.QLess
	}
	return 0
}

// item takes an item.
func (p *parser) item() api.Query {
	at := p.At()
	switch p.Mark() {
	case ":":
		p.TakeMark(":")
		return api.Query{Kind: api.QLabel, At: at, Label: api.Label{Rule: true, Name: p.name()}}
	case "$":
		p.TakeMark("$")
		return api.Query{Kind: api.QVar, At: at, Name: p.name()}
	case "(":
		p.TakeMark("(")
		q := p.query()
		p.TakeMark(")")
		return q
	}
	if callKind(p.Name()) != 0 {
		return p.call()
	}
	return api.Query{Kind: api.QLabel, At: at, Label: api.Label{Name: p.name()}}
}

// call takes a call.
func (p *parser) call() api.Query {
	q := api.Query{Kind: callKind(p.Name()), At: p.At()}
	p.Take(true)
	p.TakeMark("(")
	switch q.Kind {
	case api.QDeps:
		q.Kids = []api.Query{p.query()}
		q.N = p.far()
	case api.QRdeps:
		q.Kids = []api.Query{p.query()}
	case api.QSome, api.QAll:
		from := p.query()
		p.TakeMark(",")
		q.Kids = []api.Query{from, p.query()}
	case api.QKind:
		q.Name = p.kind()
		p.TakeMark(",")
		q.Kids = []api.Query{p.query()}
	case api.QFilter:
		q.Name = p.TakeText()
		p.TakeMark(",")
		q.Kids = []api.Query{p.query()}
	}
	p.TakeMark(")")
	return q
}

// far takes a comma and a number, if they stand there, and returns the number, or -1.
func (p *parser) far() int {
	if p.Mark() != "," {
		return -1
	}
	p.TakeMark(",")
	return p.TakeNumber(maxFar)
}

// kind takes the name of a kind of labels.
func (p *parser) kind() string {
	switch p.Name() {
	case "rule", "made", "source":
		return p.Take(true)
	}
	return p.Take(false)
}

// name takes a name.
func (p *parser) name() string {
	return p.Take(isName(p.Name()))
}
