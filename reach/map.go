package reach

import (
	"bytes"

	"freight/api"
)

// Map is a source.
type Map map[api.ID][]byte

// Get is the blob of that id.
func (m Map) Get(id api.ID) ([]byte, error) {
	data, there := m[id]
	if !there {
		return nil, fault(opGet, id, api.ErrNoBlob)
	}
	return bytes.Clone(data), nil
}
