// Package place looks at places of rows where they stand: rows are checked once, not anew for each place.
package place

import (
	"wayside/api"
	"wayside/rows"
)

// Check tells the error of rows that are not right, or of a number that is none of their places.
func Check(r api.Rows, l ...int) api.Errno {
	if !rows.Check(r) {
		return api.ErrRows
	}
	for _, v := range l {
		if !Has(r, v) {
			return api.ErrArg
		}
	}
	return api.OK
}

// Many is how many places right rows have.
func Many(r api.Rows) int { return len(r.Off) - 1 }

// Has says whether right rows have a place v.
func Has(r api.Rows, v int) bool { return v >= 0 && v < Many(r) }

// Ways are right rows. What they tell is theirs still: it has to be left as it is, and not to be told on.
type Ways struct{ Rows api.Rows }

// Out tells the places to which ways lead from v.
func (w Ways) Out(v int) []int { return w.Rows.To[w.Rows.Off[v]:w.Rows.Off[v+1]] }

// In tells the places from which ways lead to v.
func (w Ways) In(v int) []int { return w.Rows.Rev[w.Rows.RevOff[v]:w.Rows.RevOff[v+1]] }
