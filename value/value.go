// Package value is layer 1: values and rows: see shared/doc/01-value.md.
package value

import (
	"cmp"
	"slices"

	"tailrace/api"
)

// Check tells whether a value may be.
func Check(v api.Value) api.Errno {
	if isNumber(v) || isText(v) {
		return api.OK
	}
	return api.ErrValue
}

// isNumber and isText ask for the other kind's field to be empty: else two
// values that say the same would not be the same.
func isNumber(v api.Value) bool {
	return v.Kind == api.KInt && -api.MaxInt <= v.N && v.N <= api.MaxInt && v.S == ""
}

func isText(v api.Value) bool {
	return v.Kind == api.KText && v.N == 0 && len(v.S) <= api.MaxText
}

// Cmp is the order of two values.
func Cmp(a, b api.Value) int {
	switch {
	case a == b:
		return 0
	case a.Kind != b.Kind:
		return cmp.Compare(a.Kind, b.Kind)
	case a.N != b.N:
		return cmp.Compare(a.N, b.N)
	}
	return cmp.Compare(a.S, b.S)
}

// CheckRow tells whether a row is of some kinds.
func CheckRow(r []api.Value, kinds []int) api.Errno {
	for _, v := range r {
		if e := Check(v); e != api.OK {
			return e
		}
	}
	if !slices.Equal(Kinds(r), kinds) {
		return api.ErrType
	}
	return api.OK
}

// CmpRow is the order of two rows.
func CmpRow(a, b []api.Value) int {
	// Lengths tell only where the shorter row is the other's beginning.
	order := cmp.Compare(len(a), len(b))
values:
	for i := range min(len(a), len(b)) {
		switch c := Cmp(a[i], b[i]); c {
		case -1, 1:
			order = c
			break values
		}
	}
	return order
}

// Kinds are those of a row's values.
func Kinds(r []api.Value) []int {
	kinds := make([]int, len(r))
	for i, v := range r {
		kinds[i] = v.Kind
	}
	return kinds
}
