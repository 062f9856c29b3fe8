// Package probe is for the tests alone: it lays arrays, and tells if a call changed what it was handed, or answered memory that is not new.
package probe

import (
	"slices"

	"deckle/api"
)

// Flat is an array of one node with Ints.
func Flat(kind int, s []int, l ...int) []api.Node {
	return []api.Node{{Kind: kind, Shape: s, Ints: l}}
}

// Bools is an array of one node of KindBool.
func Bools(s []int, l ...int) []api.Node { return Flat(api.KindBool, s, l...) }

// Ints is an array of one node of KindInt.
func Ints(s []int, l ...int) []api.Node { return Flat(api.KindInt, s, l...) }

// Chars is an array of one node of KindChar.
func Chars(s []int, l ...int) []api.Node { return Flat(api.KindChar, s, l...) }

// Decs is an array of one node of KindDec.
func Decs(s []int, l ...api.Dec) []api.Node {
	return []api.Node{{Kind: api.KindDec, Shape: s, Decs: l}}
}

// Nest is a node of KindNest, and these rows behind it, right or not.
func Nest(s []int, kids ...[]api.Node) []api.Node {
	return append(Flat(api.KindNest, s), slices.Concat(kids...)...)
}

// Wrapped is a inside as many nodes of KindNest and that shape.
func Wrapped(count int, s []int, a []api.Node) []api.Node {
	return append(slices.Repeat(Nest(s), count), a...)
}

// Plain is a in new memory.
func Plain(a []api.Node) []api.Node {
	var row []api.Node
	for _, n := range a {
		row = append(row, api.Node{Kind: n.Kind, Shape: slices.Clone(n.Shape), Ints: slices.Clone(n.Ints), Decs: slices.Clone(n.Decs)})
	}
	return row
}

// Alike tells if a and b are the same, a nil list and an empty one too (W5).
func Alike(a, b []api.Node) bool {
	return slices.EqualFunc(a, b, func(x, y api.Node) bool {
		return x.Kind == y.Kind && slices.Equal(x.Shape, y.Shape) && slices.Equal(x.Ints, y.Ints) && slices.Equal(x.Decs, y.Decs)
	})
}

// Roomy is a copy of a with spare room behind each list; that of the row holds nodes, too.
func Roomy(a []api.Node) []api.Node {
	row := RoomyList(a, Ints([]int{1}, 70)[0])
	for k, n := range row[:cap(row)] {
		row[:cap(row)][k] = api.Node{Kind: n.Kind, Shape: RoomyList(n.Shape, 77), Ints: RoomyList(n.Ints, 78), Decs: RoomyList(n.Decs, api.Dec{Man: 79})}
	}
	return row
}

// RoomyList is a copy of l with spare room behind it, all of which is x.
func RoomyList[T any](l []T, x T) []T { return slices.Concat(l, []T{x, x, x})[:len(l)] }

// Snapshot is all that a holds, the spare room too, in new memory.
func Snapshot(a []api.Node) []api.Node {
	var all []api.Node
	for _, n := range a[:cap(a)] {
		all = append(all, api.Node{Kind: n.Kind, Shape: n.Shape[:cap(n.Shape)], Ints: n.Ints[:cap(n.Ints)], Decs: n.Decs[:cap(n.Decs)]})
	}
	return Plain(all)
}

// Fill makes each item of a list x, the spare room too.
func Fill[T any](l []T, x T) {
	for k := range l[:cap(l)] {
		l[:cap(l)][k] = x
	}
}

// Turn makes all that a holds something else, the spare room too.
func Turn(a []api.Node) {
	for _, n := range a[:cap(a)] {
		Fill(n.Shape, -50)
		Fill(n.Ints, -51)
		Fill(n.Decs, api.Dec{Man: -52, Exp: -53})
	}
	Fill(a, api.Node{Kind: -54})
}

// Apart tells if no two lists of the rows share memory, the spare room too: it gives each place a number of its own, looks if each has it still, and lays back what was there.
func Apart(rows ...[]api.Node) bool {
	all := places(rows)
	was := make([]int, len(all))
	for k, n := range all {
		was[k] = *n
	}
	for k, n := range all {
		*n = k
	}
	kept := true
	for k, n := range all {
		kept = kept && *n == k
	}
	for k, n := range all {
		*n = was[k]
	}
	return kept
}

// places are all places of the rows, the spare room too.
func places(rows [][]api.Node) []*int {
	var all []*int
	for _, a := range rows {
		for k := range a[:cap(a)] {
			n := &a[:cap(a)][k]
			all = append(all, &n.Kind)
			all = append(all, placesOf(n.Shape)...)
			all = append(all, placesOf(n.Ints)...)
			for d := range n.Decs[:cap(n.Decs)] {
				all = append(all, &n.Decs[:cap(n.Decs)][d].Man)
			}
		}
	}
	return all
}

// placesOf are all places of a list, the spare room too.
func placesOf(l []int) []*int {
	var all []*int
	for k := range l[:cap(l)] {
		all = append(all, &l[:cap(l)][k])
	}
	return all
}

// Walk hands on all rows of up to left more parts behind l.
func Walk[T any](l, parts []T, left int, see func([]T)) {
	see(l)
	if left == 0 {
		return
	}
	for _, x := range parts {
		Walk(append(slices.Clone(l), x), parts, left-1, see)
	}
}
