package scope

// names is a set of names; nil has none. It never changes, so that places share what is bound around them all.
type names struct {
	name string
	rest *names
}

// has reports whether name is one of n.
func (n *names) has(name string) bool {
	for ; n != nil; n = n.rest {
		if n.name == name {
			return true
		}
	}
	return false
}

// with returns the names of n, and name.
func (n *names) with(name string) *names {
	return &names{name, n}
}

// and returns the names that n and m have both: n itself, if m has all of them.
func (n *names) and(m *names) *names {
	var both *names
	isAll := true
	for rest := n; rest != nil; rest = rest.rest {
		if m.has(rest.name) {
			both = both.with(rest.name)
		} else {
			isAll = false
		}
	}
	if isAll {
		return n
	}
	return both
}
