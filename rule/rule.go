// Package rule has what several layers hold to alike.
package rule

import (
	"cmp"

	"wayside/api"
)

// Hits says which of two hits comes ahead: by the lesser D, then the lesser V (chapter 9).
func Hits(a, b api.Hit) int {
	return cmp.Or(cmp.Compare(a.D, b.D), cmp.Compare(a.V, b.V))
}
