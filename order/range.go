package order

import "iter"

// Range: the pairs with keys from from on and below to, in rising order. Each is looked for behind the key given last, so that the loop's body may change the tree in every way.
func (t Tree) Range(from, to string) iter.Seq2[string, string] {
	return func(yield func(string, string) bool) {
		p, there, _ := t.Ceiling(from)
		for there && p.Key < to && yield(p.Key, p.Elem) {
			p, there, _ = t.above(p.Key)
		}
	}
}

// Back: the same, in falling order.
func (t Tree) Back(from, to string) iter.Seq2[string, string] {
	return func(yield func(string, string) bool) {
		p, there, _ := t.below(to)
		for there && p.Key >= from && yield(p.Key, p.Elem) {
			p, there, _ = t.below(p.Key)
		}
	}
}
