// Package clone copies what has lists in it, so that what comes out shares nothing with what went in.
package clone

import (
	"slices"

	"wayside/api"
)

// Request copies a request.
func Request(x api.Request) api.Request {
	x.Query.Words = slices.Clone(x.Query.Words)
	return x
}

// Requests copies each request of a row.
func Requests(l []api.Request) []api.Request {
	copied := slices.Clone(l)
	for i, x := range copied {
		copied[i] = Request(x)
	}
	return copied
}

// Held copies each slot of a row.
func Held(l []api.Held) []api.Held {
	copied := slices.Clone(l)
	for i, x := range copied {
		copied[i].Request = Request(x.Request)
	}
	return copied
}
