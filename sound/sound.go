// Package sound holds the document's rule R6, which several layers ask for.
package sound

import (
	"voyage/api"
	"voyage/json"
)

// Is tells whether a value is sound: neither too deep, nor its text too long.
func Is(v api.Value) bool {
	return json.Depth(v) <= api.MaxDepth && len(json.Print(v)) <= api.MaxText
}
