package ask

import (
	"strings"

	"shipwright/api"
	"shipwright/lex"
	"shipwright/mint"
)

// isShort reports whether q has no more nodes than a query that Parse returns:
// each of them begins at another byte of the text.
func isShort(q api.Query) bool {
	nodes := []api.Query{q}
	for i := 0; i < len(nodes); i++ {
		if len(nodes)+len(nodes[i].Kids) > api.MaxAsk {
			return false
		}
		nodes = append(nodes, nodes[i].Kids...)
	}
	return true
}

// text returns the text of q.
func text(q api.Query) string {
	switch q.Kind {
	case api.QLabel:
		return labelText(q.Label)
	case api.QVar:
		return "$" + q.Name
	case api.QUnion, api.QMeet, api.QLess:
		return firstText(kid(q, 0)) + " " + operators[q.Kind] + " " + secondText(kid(q, 1))
	case api.QLet:
		return "let " + q.Name + " = " + text(kid(q, 0)) + " in " + text(kid(q, 1))
	case api.QDeps:
		if q.N >= 0 {
			return call(q.Kind, text(kid(q, 0)), mint.Number(q.N))
		}
		return call(q.Kind, text(kid(q, 0)))
	case api.QRdeps:
		return call(q.Kind, text(kid(q, 0)))
	case api.QSome, api.QAll:
		return call(q.Kind, text(kid(q, 0)), text(kid(q, 1)))
	case api.QKind:
		return call(q.Kind, q.Name, text(kid(q, 0)))
	case api.QFilter:
		return call(q.Kind, lex.Quote(q.Name), text(kid(q, 0)))
	case api.QWhole:
		return call(q.Kind)
	}
	return ""
}

// kid returns the Kid i of q, or the zero Query, whose text is empty.
func kid(q api.Query, i int) api.Query {
	if i >= len(q.Kids) {
		return api.Query{}
	}
	return q.Kids[i]
}

// labelText returns the text of a label.
func labelText(l api.Label) string {
	if l.Rule {
		return ":" + l.Name
	}
	return l.Name
}

// firstText returns the text of q as what stands ahead of an operator.
func firstText(q api.Query) string {
	if q.Kind == api.QLet {
		return "(" + text(q) + ")"
	}
	return text(q)
}

// secondText returns the text of q as what stands behind an operator.
func secondText(q api.Query) string {
	if q.Kind == api.QLet || isOperator(q.Kind) {
		return "(" + text(q) + ")"
	}
	return text(q)
}

// call returns the text of the call kind with args.
func call(kind int, args ...string) string {
	return callNames[kind] + "(" + strings.Join(args, ", ") + ")"
}
